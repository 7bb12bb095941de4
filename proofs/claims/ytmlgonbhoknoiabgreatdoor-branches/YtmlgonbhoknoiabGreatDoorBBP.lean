import Derived.Test.YtmlgonbhoknoiabGreatDoorRows
import Derived.Test.YtmlgonbhoknoiabGreatDoorBQ
set_option maxHeartbeats 8000000
set_option linter.all false
namespace Go.Proofs.YtmlgonbhoknoiabGreatDoor
open Go.RowKit Go.Proofs.Tryz
section
open Go
theorem branches_unfollowed : (Rows.branchesRow.unfollowed == prog.unfollowed 4) = true := by kernel_rfl
end
end Go.Proofs.YtmlgonbhoknoiabGreatDoor
