import Derived.Test.YtmlgonbhoknoiabGreatDoorRows
import Derived.Test.YtmlgonbhoknoiabGreatDoorPAA
import Derived.Test.YtmlgonbhoknoiabGreatDoorPQ
set_option maxHeartbeats 8000000
set_option linter.all false
namespace Go.Proofs.YtmlgonbhoknoiabGreatDoor
open Go.RowKit Go.Proofs.Tryz
section
open Go
theorem ports_recurses : (Rows.portsRow.recurses == prog.recurses 6) = true := by
 have h : prog.recurses 6 = true := by
  unfold Program.recurses
  rw [Bool.or_eq_true]
  exact .inr (List.any_eq_true.2 ⟨112, List.contains_iff_mem.1 (by kernel_rfl), by kernel_rfl⟩)
 rw [h]; rfl
end
end Go.Proofs.YtmlgonbhoknoiabGreatDoor
