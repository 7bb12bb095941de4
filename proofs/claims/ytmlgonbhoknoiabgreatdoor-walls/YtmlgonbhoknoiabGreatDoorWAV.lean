import Derived.Test.YtmlgonbhoknoiabGreatDoorWAU
set_option maxHeartbeats 8000000
set_option linter.all false
namespace Go.Proofs.YtmlgonbhoknoiabGreatDoor
open Go.RowKit Go.Proofs.Tryz
section
attribute [local go_sem ↓] Go.wp_at_zero Go.wp_at_succ
set_option maxRecDepth 100000 in
theorem k_loads (a b : Int) (w : World) : Calls prog 47 #[.int .i64 a, .int .i64 b] w fun o w' => BoolR o /\ Kept [] w w' := by
 go_enter func47, ntmps47
 go_wp2_with fail
 refine (k_built _ _ _ w).mono ?_
 rintro o w1 ⟨rfl | ⟨mb, rb, l1, l2, rfl, hm⟩, hk⟩
 . exact zq383
 have M1 := hide1 hm
 have K1 := hide1 hk
 clear hm hk
 go_wp2_with fail
 refine (m_Run mb rb _ 22 w1 M1.out).mono ?_
 exact zq384
set_option maxRecDepth 100000 in
theorem k_self (k : Int) (w : World) : Calls prog 44 #[.int .i64 k] w fun o w' => BoolR o /\ Kept [] w w' := by
 go_enter func44, ntmps44
 go_wp2_with fail
 refine (k_built _ _ _ w).mono ?_
 rintro o w1 ⟨rfl | ⟨mb, rb, l1, l2, rfl, hm⟩, hk⟩
 . exact zq383
 have M1 := hide1 hm
 have K1 := hide1 hk
 clear hm hk
 go_wp2_with fail
 refine (m_Run mb rb _ 12 w1 M1.out).mono ?_
 exact zq384
end
end Go.Proofs.YtmlgonbhoknoiabGreatDoor
