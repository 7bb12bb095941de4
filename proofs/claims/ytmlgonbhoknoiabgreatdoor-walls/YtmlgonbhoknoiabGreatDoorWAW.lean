import Derived.Test.YtmlgonbhoknoiabGreatDoorWAU
set_option maxHeartbeats 8000000
set_option linter.all false
namespace Go.Proofs.YtmlgonbhoknoiabGreatDoor
open Go.RowKit Go.Proofs.Tryz
section
attribute [local go_sem ↓] Go.wp_at_zero Go.wp_at_succ
set_option maxRecDepth 100000 in
theorem k_branches (a b : Int) (w : World) : Calls prog 48 #[.int .i64 a, .int .i64 b] w fun o w' => BoolR o /\ Kept [] w w' := by
 go_enter func48, ntmps48
 go_wp2_with fail
 refine (k_built _ _ _ w).mono ?_
 rintro o w1 ⟨rfl | ⟨mb, rb, l1, l2, rfl, hm⟩, hk⟩
 . exact zq383
 have M1 := hide1 hm
 have K1 := hide1 hk
 clear hm hk
 go_wp2_with fail
 refine (m_Run mb rb _ 29 w1 M1.out).mono ?_
 rintro o w2 ⟨⟨v, er, q0, q1, rfl⟩, hm, hk⟩
 have M2 := hide1 hm
 have K2 := hide1 (kept_new K1.out hk l1 l2)
 clear hm hk M1 K1
 have RG := hide1 (fun i => m_Reg0 mb rb w2 M2.out.m i)
 go_upto_if 33 with fail
 go_cut [6] (fun p wx => (∃ x : Int, p = .int .i64 x) /\ wx = w2)
 case first =>
  exact zq385
 case rest =>
 obtain ⟨⟨x33, rfl⟩, hwc⟩ := hcut
 rw [hwc]
 clear hwc
 go_upto_if 44 with ((go_at_call 98; refine (k_minusA _ _).mono ?_; rintro o wq ⟨⟨vm, rfl⟩, hwq⟩; rw [hwq]; clear hwq wq))
 go_cut [6] (fun p wx => (∃ x : Int, p = .int .i64 x) /\ wx = w2)
 case first =>
  exact zq385
 case rest =>
 obtain ⟨⟨x44, rfl⟩, hwc⟩ := hcut
 rw [hwc]
 clear hwc
 go_upto_if 51 with fail
 go_cut [6] (fun p wx => (∃ x : Int, p = .int .i64 x) /\ wx = w2)
 case first =>
  exact zq385
 case rest =>
 obtain ⟨⟨x51, rfl⟩, hwc⟩ := hcut
 rw [hwc]
 clear hwc
 go_wp2_with (first | (go_at_call 91; refine (RG.out _).mono ?_; rintro o wq ⟨⟨v, h0, h1, rfl⟩, hwq⟩; rw [hwq]; clear hwq wq) | (go_at_call 98; refine (k_minusA _ _).mono ?_; rintro o wq ⟨⟨vm, rfl⟩, hwq⟩; rw [hwq]; clear hwq wq) | (go_at_call 99; refine (k_forms mb rb _ _ _ (hide1 M2.out.m)).mono ?_; rintro o wq ⟨⟨vb, rfl⟩, hwq⟩; rw [hwq]; clear hwq wq))
 all_goals
  go_ret
  exact ⟨⟨_, rfl⟩, K2.out⟩
end
end Go.Proofs.YtmlgonbhoknoiabGreatDoor
