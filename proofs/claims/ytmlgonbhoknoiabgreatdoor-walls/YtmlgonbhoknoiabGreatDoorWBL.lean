import Derived.Test.YtmlgonbhoknoiabGreatDoorWBJ
import Derived.Test.YtmlgonbhoknoiabGreatDoorWBK
set_option maxHeartbeats 8000000
set_option linter.all false
namespace Go.Proofs.YtmlgonbhoknoiabGreatDoor
open Go.RowKit Go.Proofs.Tryz
section
attribute [local go_sem ↓] Go.wp_at_zero Go.wp_at_succ
theorem k_returned (mb rb z fb gb : Nat) (f g : Fc) (op : Int) (w : World) (hs : Hid (St w fb gb f g mb rb z w)) : Calls prog 59 #[.pointer (some ⟨mb, 0, none⟩), .pointer (some ⟨fb, 0, none⟩), .pointer (some ⟨gb, 0, none⟩), .int .i64 op] w fun o w' => BoolR o /\ Kept [] w w' := by
 by_cases h : op = 67
 . subst h; exact k_returnedM mb rb z fb gb f g w hs
 . exact k_returnedS mb rb z fb gb f g op h w hs
set_option maxRecDepth 100000 in
theorem k_counted (gb : Nat) (g : Fc) (k c op : Int) (fb : Nat) (f : Fc) (w : World) (hf : Hid (BoxF w fb f.l)) (hg : Hid (BoxF w gb g.l)) : Calls prog 56 #[.pointer (some ⟨fb, 0, none⟩), .pointer (some ⟨gb, 0, none⟩), .agg #[.int .i64 k, .int .i64 c], .int .i64 op] w fun o w' => BoolR o /\ Kept [] w w' := by
 have c8 := hf.out.cell 8 _ rfl
 have c9 := hf.out.cell 9 _ rfl
 have c11 := hf.out.cell 11 _ rfl
 have cl := hf.out.lt
 have d9 := hg.out.cell 9 _ rfl
 have d11 := hg.out.cell 11 _ rfl
 have dl := hg.out.lt
 have e1 : ¬ fb = w.heap.size := by omega
 have e2 : ¬ gb = w.heap.size := by omega
 go_enter func56, ntmps56
 go_upto_region 3 with fail
 all_goals first
  | (go_ret; exact ⟨⟨_, rfl⟩, (Kept.refl _ _).alloc _⟩)
  | (go_quiet (fail)
     all_goals
      go_upto_region 4 with fail
      go_quiet (fail)
      all_goals
       go_wp2_with fail
       all_goals
        go_ret
        exact ⟨⟨_, rfl⟩, ((Kept.refl _ _).alloc _).drewN _⟩)
set_option maxRecDepth 100000 in
theorem k_sensible (x0 x1 x2 x3 x4 x5 c : Int) (fb : Nat) (f : Fc) (w : World) (hf : Hid (BoxF w fb f.l)) : Calls prog 58 #[.pointer (some ⟨fb, 0, none⟩), .agg #[.int .i64 x0, .int .i64 x1, .int .i64 x2, .int .i64 x3, .int .i64 x4, .int .i64 x5], .int .i64 c] w fun o w' => BoolR o /\ Kept [] w w' := by
 have c0 := hf.out.cell 0 _ rfl
 have cl := hf.out.lt
 have e1 : ¬ fb = w.heap.size := by omega
 go_enter func58, ntmps58
 go_wp2_with fail
 all_goals
  go_ret
  exact ⟨⟨_, rfl⟩, (Kept.refl _ _).alloc _⟩
set_option maxRecDepth 100000 in
theorem k_chosen (k c : Int) (fb : Nat) (f : Fc) (w : World) (hf : Hid (BoxF w fb f.l)) : Calls prog 55 #[.pointer (some ⟨fb, 0, none⟩), .agg #[.int .i64 k, .int .i64 c]] w fun o w' => BoolR o /\ Kept [] w w' := by
 have k0 : Kept [] w (w.alloc (.cells #[.int .i64 k, .int .i64 c] 45)) := zq136
 have hf0 := hide1 (hf.out.kept k0)
 have D0 := hide1 (BoxF.new w [.int .i64 k, .int .i64 c] 45)
 have K0 := hide1 k0
 clear k0 hf
 go_enter func55, ntmps55
 go_wp2_with fail
 go_loopw [5] (fun x wr => ∃ i : Nat, i <= 12 /\ x = .int .i64 i /\ Hid (BoxF wr fb f.l) /\ Hid (BoxF wr w.heap.size [.int .i64 k, .int .i64 c]) /\ Hid (Kept [] w wr)) (fun x _ => 12 - (intOf x).toNat)
 case atStart => exact ⟨0, by omega, rfl, hf0, D0, K0⟩
 case round =>
  obtain ⟨i, hi, rfl, hfr, hdr, hkr⟩ := hrel
  clear hf0 D0 K0
  by_cases hlt : i < 12
  . have hlt' : decide ((i : Int) < 12) = true := by simp; omega
    go_wp2_with fail
    refine (k_takes i fb f wr hfr).mono ?_
    rintro o w1 ⟨⟨r, rfl⟩, hk⟩
    have hf1 := hide1 (hfr.out.kept hk)
    have hd1 := hide1 (hdr.out.kept hk)
    have K1 := hide1 (hkr.out.trans hk)
    clear hk hfr hdr hkr
    have d0 := hd1.out.cell 0 _ rfl
    have d1 := hd1.out.cell 1 _ rfl
    cases r
    . go_wp2_with fail
      go_roundw
      case rel => exact ⟨i + 1, by omega, by go_num, hf1, hd1, K1⟩
      case measure => exact zq186
    . go_wp2_with (first | (go_at_call 104; refine (k_rank _ fb f w1 hf1).mono ?_; rintro o wq ⟨⟨v, rfl⟩, hwq⟩; rw [hwq]; clear hwq wq))
      all_goals first
       | (go_ret; exact ⟨⟨_, rfl⟩, K1.out⟩)
       | (go_roundw
          case rel => exact ⟨i + 1, by omega, by go_num, hf1, hd1, K1⟩
          case measure => simp [intOf]; omega)
  . have hlt' : decide ((i : Int) < 12) = false := by simp; omega
    have d0 := hdr.out.cell 0 _ rfl
    have d1 := hdr.out.cell 1 _ rfl
    by_cases h2 : k = 2
    . have q2 : (k == 2) = true := by simp [h2]
      clear h2
      go_wp2_with fail
      refine (k_takes c fb f wr hfr).mono ?_
      rintro o w1 ⟨⟨r, rfl⟩, hk⟩
      have K1 := hide1 (hkr.out.trans hk)
      clear hk hfr hdr hkr
      go_wp2_with fail
      go_ret
      exact ⟨⟨_, rfl⟩, K1.out⟩
    . have q2 : (k == 2) = false := by simp [h2]
      have c3 := hfr.out.cell 3 _ rfl
      have c4 := hfr.out.cell 4 _ rfl
      have cl := hfr.out.lt
      have dl := hdr.out.lt
      by_cases h3 : k = 3
      . have q3 : (k != 3) = false := by simp [h3]
        have q3' : (k == 3) = true := by simp [h3]
        exact zq408
      . have q3 : (k != 3) = true := by simp [h3]
        have q3' : (k == 3) = false := by simp [h3]
        exact zq408
end
end Go.Proofs.YtmlgonbhoknoiabGreatDoor
