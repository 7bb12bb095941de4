import Derived.Test.YtmlgonbhoknoiabGreatDoorRows
import Derived.Test.YtmlgonbhoknoiabGreatDoorWQ
set_option maxHeartbeats 8000000
set_option linter.all false
namespace Go.Proofs.YtmlgonbhoknoiabGreatDoor
open Go.RowKit Go.Proofs.Tryz
section
open Go
theorem walls_inPlace : (Rows.wallsRow.inPlace == prog.inPlace 9) = true := by kernel_rfl
end
end Go.Proofs.YtmlgonbhoknoiabGreatDoor
