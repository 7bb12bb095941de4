import Derived.Test.YtmlgonbhoknoiabGreatDoorRows
import Derived.Test.YtmlgonbhoknoiabGreatDoorYQ
set_option maxHeartbeats 8000000
set_option linter.all false
namespace Go.Proofs.YtmlgonbhoknoiabGreatDoor
open Go.RowKit Go.Proofs.Tryz
section
open Go
set_option maxRecDepth 100000 in
theorem card_looks : false = Tryz.pinned.checked.prog.looks [] := by kernel_rfl
end
end Go.Proofs.YtmlgonbhoknoiabGreatDoor
