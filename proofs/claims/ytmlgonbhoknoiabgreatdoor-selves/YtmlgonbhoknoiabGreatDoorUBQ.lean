import Derived.Test.YtmlgonbhoknoiabGreatDoorRows
import Derived.Test.YtmlgonbhoknoiabGreatDoorUQ
set_option maxHeartbeats 8000000
set_option linter.all false
namespace Go.Proofs.YtmlgonbhoknoiabGreatDoor
open Go.RowKit Go.Proofs.Tryz
section
open Go
theorem selves_inPlace : (Rows.selvesRow.inPlace == prog.inPlace 7) = true := by kernel_rfl
end
end Go.Proofs.YtmlgonbhoknoiabGreatDoor
