import Derived.Test.YthfofjkfbhahoaaGreatDoorRows
import Derived.JoinedOf
namespace Go.Proofs.YthfofjkfbhahoaaGreatDoor
open Go
theorem images_inPlace : (Rows.imagesRow.inPlace == Tryz.prog.inPlace 5) = true := by kernel_rfl
end Go.Proofs.YthfofjkfbhahoaaGreatDoor
