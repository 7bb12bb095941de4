import Derived.Test.YtmlgonbhoknoiaaGreatDoorRows
import Derived.Test.YtmlgonbhoknoiaaGreatDoorSQ
set_option maxHeartbeats 8000000
set_option linter.all false
namespace Go.Proofs.YtmlgonbhoknoiaaGreatDoor
open Go.RowKit Go.Proofs.Tryz
section
open Go
theorem words_unfollowed : (Rows.wordsRow.unfollowed == prog.unfollowed 11) = true := by kernel_rfl
end
end Go.Proofs.YtmlgonbhoknoiaaGreatDoor
