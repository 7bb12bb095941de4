import Derived.Test.YtmlgonbhoknoiabGreatDoorRows
import Derived.Test.YtmlgonbhoknoiabGreatDoorYQ
set_option maxHeartbeats 8000000
set_option linter.all false
namespace Go.Proofs.YtmlgonbhoknoiabGreatDoor
open Go.RowKit Go.Proofs.Tryz
section
open Go
theorem watched_recurses : (Rows.watchedRow.recurses == prog.recurses 11) = true := by
 have h : prog.recurses 11 = true := by
  unfold Program.recurses
  rw [Bool.or_eq_true]
  exact .inr (List.any_eq_true.2 ⟨112, List.contains_iff_mem.1 (by kernel_rfl), by kernel_rfl⟩)
 rw [h]; rfl
end
end Go.Proofs.YtmlgonbhoknoiabGreatDoor
