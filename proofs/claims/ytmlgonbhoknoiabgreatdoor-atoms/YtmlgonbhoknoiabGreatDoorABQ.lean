import Derived.Test.YtmlgonbhoknoiabGreatDoorRows
import Derived.Test.YtmlgonbhoknoiabGreatDoorAQ
set_option maxHeartbeats 8000000
set_option linter.all false
namespace Go.Proofs.YtmlgonbhoknoiabGreatDoor
open Go.RowKit Go.Proofs.Tryz
section
open Go
theorem atoms_inPlace : (Rows.atomsRow.inPlace == prog.inPlace 5) = true := by kernel_rfl
end
end Go.Proofs.YtmlgonbhoknoiabGreatDoor
