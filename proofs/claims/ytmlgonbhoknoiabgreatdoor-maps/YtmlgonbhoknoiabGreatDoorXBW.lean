import Derived.Test.YtmlgonbhoknoiabGreatDoorRows
import Derived.Test.YtmlgonbhoknoiabGreatDoorXQ
set_option maxHeartbeats 8000000
set_option linter.all false
namespace Go.Proofs.YtmlgonbhoknoiabGreatDoor
open Go.RowKit Go.Proofs.Tryz
section
open Go
set_option maxRecDepth 100000 in
theorem maps_goes : false = Rows.mapsRow.goesBy Tryz.pinned.checked.prog := by kernel_rfl
end
end Go.Proofs.YtmlgonbhoknoiabGreatDoor
