import Derived.Test.YtmlgonbhoknoiaaGreatDoorMAR
set_option maxHeartbeats 8000000
set_option linter.all false
namespace Go.Proofs.YtmlgonbhoknoiaaGreatDoor
open Go.RowKit Go.Proofs.Tryz
section
attribute [local go_sem ↓] Go.wp_at_zero Go.wp_at_succ
theorem k_minusA (a : Int) (w : World) : Calls prog 108 #[.int .i64 a] w fun o w' => (∃ v : Int, o = .returned (.int .i64 v)) /\ w' = w := by
 go_enter func108, ntmps108
 exact zq379
theorem m_Reg0 (mb rb : Nat) (w : World) (hw : Mx w mb rb) (i : Int) : Calls prog 101 #[.pointer (some ⟨mb, 0, none⟩), .int .i64 i] w fun o w' => IntR o /\ w' = w := k_reg mb rb i w (hide1 hw)
set_option maxRecDepth 100000 in
theorem k_pair (a b : Int) (w : World) : Calls prog 56 #[.int .i64 a, .int .i64 b] w fun o w' => BoolR o /\ Kept [] w w' := by
 go_enter func56, ntmps56
 go_wp2_with fail
 refine (k_built _ _ _ w).mono ?_
 rintro o w1 ⟨rfl | ⟨mb, rb, l1, l2, rfl, hm⟩, hk⟩
 . exact zq381
 have M1 := hide1 hm
 have K1 := hide1 hk
 clear hm hk
 go_wp2_with fail
 refine (m_Run mb rb _ 13 w1 M1.out).mono ?_
 exact zq380
end
end Go.Proofs.YtmlgonbhoknoiaaGreatDoor
