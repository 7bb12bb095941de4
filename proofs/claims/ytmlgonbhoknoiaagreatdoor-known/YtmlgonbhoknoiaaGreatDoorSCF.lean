import Derived.Test.YtmlgonbhoknoiaaGreatDoorRows
import Derived.Test.YtmlgonbhoknoiaaGreatDoorSQ
set_option maxHeartbeats 8000000
set_option linter.all false
namespace Go.Proofs.YtmlgonbhoknoiaaGreatDoor
open Go.RowKit Go.Proofs.Tryz
section
open Go
set_option maxRecDepth 100000 in
theorem known_goes : false = Rows.knownRow.goesBy Tryz.pinned.checked.prog := by kernel_rfl
end
end Go.Proofs.YtmlgonbhoknoiaaGreatDoor
