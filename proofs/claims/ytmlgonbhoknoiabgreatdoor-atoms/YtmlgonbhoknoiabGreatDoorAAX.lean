import Derived.Test.YtmlgonbhoknoiabGreatDoorAAU
set_option maxHeartbeats 8000000
set_option linter.all false
namespace Go.Proofs.YtmlgonbhoknoiabGreatDoor
open Go.RowKit Go.Proofs.Tryz
section
attribute [local go_sem ↓] Go.wp_at_zero Go.wp_at_succ
set_option maxRecDepth 100000 in
theorem k_alarm (a b : Int) (w : World) : Calls prog 43 #[.int .i64 a, .int .i64 b] w fun o w' => BoolR o /\ Kept [] w w' := by
 go_enter func43, ntmps43
 go_wp2_with fail
 refine (k_built _ _ _ w).mono ?_
 rintro o w1 ⟨rfl | ⟨mb, rb, l1, l2, rfl, hm⟩, hk⟩
 . exact zq384
 have M1 := hide1 hm
 have K1 := hide1 hk
 clear hm hk
 go_wp2_with fail
 refine (m_Run mb rb _ 8 w1 M1.out).mono ?_
 rintro o w2 ⟨⟨v, er, q0, q1, rfl⟩, hm, hk⟩
 have M2 := hide1 hm
 have K2 := hide1 (kept_new K1.out hk l1 l2)
 clear hm hk M1 K1
 go_wp2_with fail
 refine (m_Tick mb rb _ a w2 M2.out).mono ?_
 rintro o w3 ⟨⟨er, rfl⟩, hm, hk⟩
 have M3 := hide1 hm
 have K3 := hide1 (kept_new K2.out hk l1 l2)
 clear hm hk M2 K2
 go_wp2_with fail
 refine (m_Run mb rb _ 12 w3 M3.out).mono ?_
 rintro o w4 ⟨⟨v, er, q0, q1, rfl⟩, hm, hk⟩
 have M4 := hide1 hm
 have K4 := hide1 (kept_new K3.out hk l1 l2)
 clear hm hk M3 K3
 have CR := hide1 (fun i => k_csr mb rb i w4 (hide1 M4.out.m))
 have RG := hide1 (fun i => m_Reg0 mb rb w4 M4.out.m i)
 go_wp2_with (first | (go_at_call 95; refine (CR.out _).mono ?_; rintro o wq ⟨⟨v, h0, h1, rfl⟩, hkq⟩; have KQ := hide1 (K4.out.trans hkq); clear hkq) | (go_at_call 91; refine (RG.out _).mono ?_; rintro o wq ⟨⟨v, h0, h1, rfl⟩, hwq⟩; rw [hwq]; clear hwq wq))
 all_goals
  go_ret
  first | exact ⟨⟨_, rfl⟩, K4.out⟩ | exact ⟨⟨_, rfl⟩, KQ.out⟩
set_option maxRecDepth 100000 in
theorem k_echo (s : ByteArray) (hs : s.size <= 1125899906842624) (w : World) : Calls prog 42 #[.string s] w fun o w' => BoolR o /\ Kept [] w w' := by
 go_enter func42, ntmps42
 go_wp2_with fail
 refine (k_built _ _ _ w).mono ?_
 rintro o w1 ⟨rfl | ⟨mb, rb, l1, l2, rfl, hm⟩, hk⟩
 . exact zq384
 have M1 := hide1 hm
 have K1 := hide1 hk
 clear hm hk
 go_wp2_with fail
 refine (m_Feed mb rb _ s w1 M1.out).mono ?_
 rintro o w2 ⟨⟨nf, ef, f0, f1, f2, rfl⟩, hm, hk⟩
 have M2 := hide1 hm
 have K2 := hide1 (kept_new K1.out hk l1 l2)
 clear hm hk M1 K1
 go_wp2_with fail
 refine (m_Run mb rb _ 64 w2 M2.out).mono ?_
 rintro o w3 ⟨⟨v, er, q0, q1, rfl⟩, hm, hk⟩
 have M3 := hide1 hm
 have K3 := hide1 (kept_new K2.out hk l1 l2)
 clear hm hk M2 K2
 go_wp2_with fail
 refine (m_Drain mb rb _ w3 M3.out).mono ?_
 rintro o w4 ⟨⟨sd, dz, rfl⟩, hm, hk⟩
 have M4 := hide1 hm
 have K4 := hide1 (kept_new K3.out hk l1 l2)
 clear hm hk M3 K3
 have RG := hide1 (fun i => m_Reg0 mb rb w4 M4.out.m i)
 go_wp2_with (first | (go_at_call 91; refine (RG.out _).mono ?_; rintro o wq ⟨⟨v, h0, h1, rfl⟩, hwq⟩; rw [hwq]; clear hwq wq))
 all_goals
  go_ret
  exact ⟨⟨_, rfl⟩, K4.out⟩
end
end Go.Proofs.YtmlgonbhoknoiabGreatDoor
