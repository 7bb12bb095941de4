import Derived.Test.YtmlgonbhoknoiaaGreatDoorRows
import Derived.Test.YtmlgonbhoknoiaaGreatDoorMQ
set_option maxHeartbeats 8000000
set_option linter.all false
namespace Go.Proofs.YtmlgonbhoknoiaaGreatDoor
open Go.RowKit Go.Proofs.Tryz
section
open Go
theorem maths_named : (Rows.mathsRow.named == prog.varsNamed 13) = true := by kernel_rfl
end
end Go.Proofs.YtmlgonbhoknoiaaGreatDoor
