import Derived.Test.YtmlgonbhoknoiabGreatDoorRows
import Derived.Test.YtmlgonbhoknoiabGreatDoorPAA
import Derived.Test.YtmlgonbhoknoiabGreatDoorPQ
set_option maxHeartbeats 8000000
set_option linter.all false
namespace Go.Proofs.YtmlgonbhoknoiabGreatDoor
open Go.RowKit Go.Proofs.Tryz
section
open Go
theorem ports_inPlace : (Rows.portsRow.inPlace == prog.inPlace 6) = true := by kernel_rfl
end
end Go.Proofs.YtmlgonbhoknoiabGreatDoor
