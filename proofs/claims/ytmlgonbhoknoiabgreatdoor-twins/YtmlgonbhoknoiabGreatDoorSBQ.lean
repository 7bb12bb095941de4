import Derived.Test.YtmlgonbhoknoiabGreatDoorRows
import Derived.Test.YtmlgonbhoknoiabGreatDoorSQ
set_option maxHeartbeats 8000000
set_option linter.all false
namespace Go.Proofs.YtmlgonbhoknoiabGreatDoor
open Go.RowKit Go.Proofs.Tryz
section
open Go
theorem twins_inPlace : (Rows.twinsRow.inPlace == prog.inPlace 10) = true := by kernel_rfl
end
end Go.Proofs.YtmlgonbhoknoiabGreatDoor
