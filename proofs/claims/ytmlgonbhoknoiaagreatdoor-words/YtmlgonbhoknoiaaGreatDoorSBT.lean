import Derived.Test.YtmlgonbhoknoiaaGreatDoorRows
namespace Go.Proofs.YtmlgonbhoknoiaaGreatDoor
open Go
theorem words_recurses : (Rows.wordsRow.recurses == Tryz.prog.recurses 11) = true := by
 have h : Tryz.prog.recurses 11 = true := by
  unfold Program.recurses
  rw [Bool.or_eq_true]
  exact .inr (List.any_eq_true.2 ⟨122, List.contains_iff_mem.1 (by kernel_rfl), by kernel_rfl⟩)
 rw [h]; rfl
end Go.Proofs.YtmlgonbhoknoiaaGreatDoor
