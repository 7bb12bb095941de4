import Derived.Test.YtmlgonbhoknoiabGreatDoorRows
import Derived.Test.YtmlgonbhoknoiabGreatDoorYQ
set_option maxHeartbeats 8000000
set_option linter.all false
namespace Go.Proofs.YtmlgonbhoknoiabGreatDoor
open Go.RowKit Go.Proofs.Tryz
section
open Go
theorem watched_unfollowed : (Rows.watchedRow.unfollowed == prog.unfollowed 11) = true := by kernel_rfl
end
end Go.Proofs.YtmlgonbhoknoiabGreatDoor
