import Derived.Test.YtmlgonbhoknoiabGreatDoorRows
import Derived.Test.YtmlgonbhoknoiabGreatDoorXQ
set_option maxHeartbeats 8000000
set_option linter.all false
namespace Go.Proofs.YtmlgonbhoknoiabGreatDoor
open Go.RowKit Go.Proofs.Tryz
section
open Go
theorem maps_unfollowed : (Rows.mapsRow.unfollowed == prog.unfollowed 8) = true := by kernel_rfl
end
end Go.Proofs.YtmlgonbhoknoiabGreatDoor
