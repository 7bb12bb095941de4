import Derived.Test.YtmlgonbhoknoiabGreatDoorWAO
import Derived.Test.YtmlgonbhoknoiabGreatDoorWAS
import Derived.Test.YtmlgonbhoknoiabGreatDoorWAT
set_option maxHeartbeats 8000000
set_option linter.all false
namespace Go.Proofs.YtmlgonbhoknoiabGreatDoor
open Go.RowKit Go.Proofs.Tryz
section
attribute [local go_sem ↓] Go.wp_at_zero Go.wp_at_succ
theorem k_minusA (a : Int) (w : World) : Calls prog 98 #[.int .i64 a] w fun o w' => (∃ v : Int, o = .returned (.int .i64 v)) /\ w' = w := by
 go_enter func98, ntmps98
 exact zq382
theorem m_Reg0 (mb rb : Nat) (w : World) (hw : Mx w mb rb) (i : Int) : Calls prog 91 #[.pointer (some ⟨mb, 0, none⟩), .int .i64 i] w fun o w' => IntR o /\ w' = w := k_reg mb rb i w (hide1 hw)
set_option maxRecDepth 100000 in
theorem k_maths (a b : Int) (w : World) : Calls prog 41 #[.int .i64 a, .int .i64 b] w fun o w' => BoolR o /\ Kept [] w w' := by
 go_enter func41, ntmps41
 go_wp2_with fail
 refine (k_built _ _ _ w).mono ?_
 rintro o w1 ⟨rfl | ⟨mb, rb, l1, l2, rfl, hm⟩, hk⟩
 . exact zq383
 have M1 := hide1 hm
 have K1 := hide1 hk
 clear hm hk
 go_wp2_with fail
 refine (m_Run mb rb _ 25 w1 M1.out).mono ?_
 rintro o w2 ⟨⟨v, er, q0, q1, rfl⟩, hm, hk⟩
 have M2 := hide1 hm
 have K2 := hide1 (kept_new K1.out hk l1 l2)
 clear hm hk M1 K1
 have RG := hide1 (fun i => m_Reg0 mb rb w2 M2.out.m i)
 go_wp2_with (first | (go_at_call 91; refine (RG.out _).mono ?_; rintro o wq ⟨⟨v, h0, h1, rfl⟩, hwq⟩; rw [hwq]; clear hwq wq) | (go_at_call 92; refine (k_divides mb rb _ _ (by omega) (by omega) (by omega) (by omega) _ (hide1 M2.out.m)).mono ?_; rintro o wq ⟨⟨vb, rfl⟩, hwq⟩; rw [hwq]; clear hwq wq) | (go_at_call 93; refine (k_multiplies mb rb _ _ (by omega) (by omega) (by omega) (by omega) _ (hide1 M2.out.m)).mono ?_; rintro o wq ⟨⟨vb, rfl⟩, hwq⟩; rw [hwq]; clear hwq wq) | (go_at_call 94; refine (k_bitwise mb rb _ _ (by omega) (by omega) (by omega) (by omega) _ (hide1 M2.out.m)).mono ?_; rintro o wq ⟨⟨vb, rfl⟩, hwq⟩; rw [hwq]; clear hwq wq))
 all_goals
  go_ret
  exact ⟨⟨_, rfl⟩, K2.out⟩
set_option maxRecDepth 100000 in
theorem k_pair (a b : Int) (w : World) : Calls prog 50 #[.int .i64 a, .int .i64 b] w fun o w' => BoolR o /\ Kept [] w w' := by
 go_enter func50, ntmps50
 go_wp2_with fail
 refine (k_built _ _ _ w).mono ?_
 rintro o w1 ⟨rfl | ⟨mb, rb, l1, l2, rfl, hm⟩, hk⟩
 . exact zq383
 have M1 := hide1 hm
 have K1 := hide1 hk
 clear hm hk
 go_wp2_with fail
 refine (m_Run mb rb _ 13 w1 M1.out).mono ?_
 exact zq384
end
end Go.Proofs.YtmlgonbhoknoiabGreatDoor
