import Derived.Test.YthfofjkfbhahoaaGreatDoorRows
import Derived.JoinedOf
namespace Go.Proofs.YthfofjkfbhahoaaGreatDoor
open Go
theorem images_unfollowed : (Rows.imagesRow.unfollowed == Tryz.prog.unfollowed 5) = true := by kernel_rfl
end Go.Proofs.YthfofjkfbhahoaaGreatDoor
