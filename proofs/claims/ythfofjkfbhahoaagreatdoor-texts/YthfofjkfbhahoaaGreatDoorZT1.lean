import Derived.Test.YthfofjkfbhahoaaGreatDoorRows
import Derived.JoinedOf
namespace Go.Proofs.YthfofjkfbhahoaaGreatDoor
open Go
theorem texts_unfollowed : (Rows.textsRow.unfollowed == Tryz.prog.unfollowed 6) = true := by kernel_rfl
end Go.Proofs.YthfofjkfbhahoaaGreatDoor
