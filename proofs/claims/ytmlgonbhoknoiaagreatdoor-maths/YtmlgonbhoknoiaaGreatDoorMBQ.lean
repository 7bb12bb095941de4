import Derived.Test.YtmlgonbhoknoiaaGreatDoorRows
import Derived.Test.YtmlgonbhoknoiaaGreatDoorMQ
set_option maxHeartbeats 8000000
set_option linter.all false
namespace Go.Proofs.YtmlgonbhoknoiaaGreatDoor
open Go.RowKit Go.Proofs.Tryz
section
open Go
theorem maths_recurses : (Rows.mathsRow.recurses == prog.recurses 13) = true := by
 have h : prog.recurses 13 = true := by
  unfold Program.recurses
  rw [Bool.or_eq_true]
  exact .inr (List.any_eq_true.2 ⟨122, List.contains_iff_mem.1 (by kernel_rfl), by kernel_rfl⟩)
 rw [h]; rfl
end
end Go.Proofs.YtmlgonbhoknoiaaGreatDoor
