import Derived.Test.YthfofjkfbhahoaaGreatDoorRows
import Derived.JoinedOf
namespace Go.Proofs.YthfofjkfbhahoaaGreatDoor
open Go
theorem images_named : (Rows.imagesRow.named == Tryz.prog.varsNamed 5) = true := by kernel_rfl
end Go.Proofs.YthfofjkfbhahoaaGreatDoor
