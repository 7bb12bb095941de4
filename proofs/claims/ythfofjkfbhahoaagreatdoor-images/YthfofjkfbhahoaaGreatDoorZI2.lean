import Derived.Test.YthfofjkfbhahoaaGreatDoorRows
import Derived.JoinedOf
namespace Go.Proofs.YthfofjkfbhahoaaGreatDoor
open Go
theorem images_recurses : (Rows.imagesRow.recurses == Tryz.prog.recurses 5) = true := by kernel_rfl
end Go.Proofs.YthfofjkfbhahoaaGreatDoor
