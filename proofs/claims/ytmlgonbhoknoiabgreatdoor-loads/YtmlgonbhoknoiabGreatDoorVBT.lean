import Derived.Test.YtmlgonbhoknoiabGreatDoorRows
import Derived.Test.YtmlgonbhoknoiabGreatDoorVQ
set_option maxHeartbeats 8000000
set_option linter.all false
namespace Go.Proofs.YtmlgonbhoknoiabGreatDoor
open Go.RowKit Go.Proofs.Tryz
section
open Go
theorem loads_named : (Rows.loadsRow.named == prog.varsNamed 3) = true := by kernel_rfl
end
end Go.Proofs.YtmlgonbhoknoiabGreatDoor
