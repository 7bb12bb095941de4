import Derived.Test.YtmlgonbhoknoiabGreatDoorRows
import Derived.Test.YtmlgonbhoknoiabGreatDoorVQ
set_option maxHeartbeats 8000000
set_option linter.all false
namespace Go.Proofs.YtmlgonbhoknoiabGreatDoor
open Go.RowKit Go.Proofs.Tryz
section
open Go
theorem loads_unfollowed : (Rows.loadsRow.unfollowed == prog.unfollowed 3) = true := by kernel_rfl
end
end Go.Proofs.YtmlgonbhoknoiabGreatDoor
