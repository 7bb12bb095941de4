import Derived.Test.YtmlgonbhoknoiabGreatDoorWBA
set_option maxHeartbeats 8000000
set_option maxRecDepth 100000
set_option linter.all false
namespace Go.Proofs.YtmlgonbhoknoiabGreatDoor
open Go.RowKit Go.Proofs.Tryz
section
attribute [local go_sem ↓] Go.wp_at_zero Go.wp_at_succ
theorem k_has (v i : Int) (w : World) : Calls prog 105 #[.int .i64 v, .int .i64 i] w fun o w' => BoolR o /\ w' = w := by
 go_enter func105, ntmps105
 exact zq382
theorem k_hasBoth (i : Int) (fb : Nat) (f : Fc) (w : World) (hf : Hid (BoxF w fb f.l)) : Calls prog 146 #[.pointer (some ⟨fb, 0, none⟩), .int .i64 i] w fun o w' => BoolR o /\ Kept [] w w' := by
 have c3 := hf.out.cell 3 _ rfl
 have c4 := hf.out.cell 4 _ rfl
 have cl := hf.out.lt
 go_enter func146, ntmps146
 go_upto_region 1 with fail
 exact zq389
theorem k_takes (i : Int) (fb : Nat) (f : Fc) (w : World) (hf : Hid (BoxF w fb f.l)) : Calls prog 103 #[.pointer (some ⟨fb, 0, none⟩), .int .i64 i] w fun o w' => BoolR o /\ Kept [] w w' := by
 have HB := hide1 (k_hasBoth i fb f w hf)
 go_enter func103, ntmps103
 go_wp2_with fail
 refine HB.out.mono ?_
 rintro o w1 ⟨⟨r, rfl⟩, hk⟩
 have hf1 := hide1 (hf.out.kept hk)
 have K1 := hide1 hk
 clear hk HB hf
 have c0 := hf1.out.cell 0 _ rfl
 have c2 := hf1.out.cell 2 _ rfl
 have c5 := hf1.out.cell 5 _ rfl
 have cl := hf1.out.lt
 go_wp2_with fail
 all_goals
  go_ret
  exact ⟨⟨_, rfl⟩, K1.out⟩
theorem k_rank (i : Int) (fb : Nat) (f : Fc) (w : World) (hf : Hid (BoxF w fb f.l)) : Calls prog 104 #[.pointer (some ⟨fb, 0, none⟩), .int .i64 i] w fun o w' => (∃ v : Int, o = .returned (.int .i64 v)) /\ w' = w := by
 have c5 := hf.out.cell 5 _ rfl
 have cl := hf.out.lt
 go_enter func104, ntmps104
 exact zq382
theorem beqC (a b : Int) : ((a == b) = true /\ (a != b) = false) \/ ((a == b) = false /\ (a != b) = true) := by
 by_cases h : a = b
 . left; subst h; simp
 . right; simp [h]
theorem k_paged (fb : Nat) (f : Fc) (w : World) (hf : Hid (BoxF w fb f.l)) : CS 65 #[.pointer (some ⟨fb, 0, none⟩)] (.bool (!(f.mode == 3) && (f.satp / 2147483648 == 1))) w := by
 have c0 := hf.out.cell 0 _ rfl
 have c7 := hf.out.cell 7 _ rfl
 have cl := hf.out.lt
 rcases beqC f.mode 3 with ⟨ha, ha'⟩ | ⟨ha, ha'⟩ <;> rcases beqC (f.satp / 2147483648) 1 with ⟨hb, hb'⟩ | ⟨hb, hb'⟩ <;> rw [ha, hb]
 all_goals
  go_enter func65, ntmps65
  go_wp2_with fail
  go_ret
  exact ⟨rfl, rfl⟩
def St (w0 : World) (fb gb : Nat) (f g : Fc) (mb rb z : Nat) (w : World) : Prop := BoxF w fb f.l /\ BoxF w gb g.l /\ Mz w mb rb z /\ Kept [] w0 w
theorem St.kept {w0 : World} {fb gb : Nat} {f g : Fc} {mb rb z : Nat} {w w' : World} (h : St w0 fb gb f g mb rb z w) (hk : Kept [] w w') : St w0 fb gb f g mb rb z w' := ⟨h.1.kept hk, h.2.1.kept hk, h.2.2.1.kept hk, h.2.2.2.trans hk⟩
theorem St.drewN {w0 : World} {fb gb : Nat} {f g : Fc} {mb rb z : Nat} {w : World} (h : St w0 fb gb f g mb rb z w) (n : Nat) : St w0 fb gb f g mb rb z (w.drewN n) := h.kept ((Kept.refl [] w).drewN n)
end
end Go.Proofs.YtmlgonbhoknoiabGreatDoor
