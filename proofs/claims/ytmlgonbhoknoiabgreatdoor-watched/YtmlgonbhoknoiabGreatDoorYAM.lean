import Derived.Test.YtmlgonbhoknoiabGreatDoorYAL
set_option maxHeartbeats 8000000
set_option linter.all false
namespace Go.Proofs.YtmlgonbhoknoiabGreatDoor
open Go.RowKit Go.Proofs.Tryz
section
attribute [local go_sem ↓] Go.wp_at_zero Go.wp_at_succ
theorem pl_and (n : Nat) (h : n <= 4294967295) : bits .and .i64 ((n : Int) / 4096) 1023 = ((n / 4096 % 1024 : Nat) : Int) := by
 have e : (n : Int) / 4096 = ((n / 4096 : Nat) : Int) := by omega
 rw [e]
 have := b_and (n / 4096) 1023 (by omega) (by decide)
 rw [show (n / 4096) &&& 1023 = n / 4096 % 1024 from Nat.and_two_pow_sub_one_eq_mod (n / 4096) 10] at this
 exact this
theorem pl_low (n : Nat) (h : n <= 4294967295) : bits .and .i64 (n : Int) 4095 = ((n % 4096 : Nat) : Int) := by
 have := b_and n 4095 (by omega) (by decide)
 rw [show n &&& 4095 = n % 4096 from Nat.and_two_pow_sub_one_eq_mod n 12] at this
 exact this
set_option maxRecDepth 100000 in
theorem k_maps (a b c : Int) (h0 : -9223372036854775808 <= c) (h1 : c <= 9223372036854775807) (w : World) : Calls prog 45 #[.int .i64 a, .int .i64 b, .int .i64 c] w fun o w' => BoolR o /\ Kept [] w w' := by
 obtain ⟨n, n1, n4, en⟩ := va_any a
 obtain ⟨u, u1, eu⟩ := v_any b
 have lo := pl_low n (by omega)
 have pa := pl_and n (by omega)
 obtain ⟨m, m1, m4, em⟩ := va_big n n1 n4
 rw [lo, show ((n % 4096 : Nat) : Int) = (n : Int) % 4096 by omega] at em
 have pm := pl_and m (by omega)
 have PK := hide1 (fun W => k_pick c h0 h1 6 (by decide) (by decide) W)
 clear h0 h1
 go_enter func45, ntmps45
 go_wp2_with fail
 refine (PK.out _).mono ?_
 rintro o w1 ⟨⟨j, hj, rfl⟩, rfl⟩
 have hj6 : j = 0 \/ j = 1 \/ j = 2 \/ j = 3 \/ j = 4 \/ j = 5 := by omega
 clear hj
 rcases hj6 with rfl | rfl | rfl | rfl | rfl | rfl
 all_goals
  go_wp2_with fail
  refine (k_mapper _ _ _ _ _ w1).mono ?_
  rintro o w2 ⟨rfl | ⟨mb, rb, l1, l2, rfl, hm⟩, hk⟩
  . exact zq385
  have M2 := hide1 hm
  have K2 := hide1 hk
  clear hm hk
  go_wp2_with fail
  refine (m_Run mb rb _ 20 w2 M2.out).mono ?_
  rintro o w3 ⟨⟨v, er, q0, q1, rfl⟩, hm, hk⟩
  have M3 := hide1 hm
  have K3 := hide1 (kept_new K2.out hk l1 l2)
  clear hm hk M2 K2 q0 q1
  go_wp2_with fail
  refine (k_wordAt mb rb 16384 _ (by omega) (by omega) w3 M3).mono ?_
  rintro o w4 ⟨⟨v1, rfl⟩, hk⟩
  have M4 := hide1 (M3.out.kept hk)
  have K4 := hide1 (K3.out.trans hk)
  clear hk M3 K3
  go_wp2_with fail
  refine (k_wordAt mb rb 16384 _ (by omega) (by omega) w4 M4).mono ?_
  rintro o w5 ⟨⟨v2, rfl⟩, hk⟩
  have M5 := hide1 (M4.out.kept hk)
  have K5 := hide1 (K4.out.trans hk)
  clear hk M4 K4
  go_wp2_with fail
  refine (k_wordAt mb rb 16384 _ (by omega) (by omega) w5 M5).mono ?_
  rintro o w6 ⟨⟨v3, rfl⟩, hk⟩
  have M6 := hide1 (M5.out.kept hk)
  have K6 := hide1 (K5.out.trans hk)
  clear hk M5 K5
  go_wp2_with fail
  refine (k_reg mb rb _ w6 (hide1 M6.out.m)).mono ?_
  rintro o w6' ⟨⟨v4, p0, p1, rfl⟩, rfl⟩
  go_wp2_with fail
  refine (k_csr mb rb _ w6' (hide1 M6.out.m)).mono ?_
  rintro o w7 ⟨⟨v5, p2, p3, rfl⟩, hk⟩
  have M7 := hide1 (M6.out.kept hk)
  have K7 := hide1 (K6.out.trans hk)
  clear hk M6 K6
  go_wp2_with fail
  refine (k_csr mb rb _ w7 (hide1 M7.out.m)).mono ?_
  rintro o w8 ⟨⟨v6, p4, p5, rfl⟩, hk⟩
  have K8 := hide1 (K7.out.trans hk)
  clear hk M7 K7
  go_wp2_with fail
  refine (PK.out _).mono ?_
  rintro o w9 ⟨⟨j2, hj2, rfl⟩, rfl⟩
  clear hj2
  go_wp2_with fail
  all_goals
   go_ret
   exact ⟨⟨_, rfl⟩, K8.out⟩
end
end Go.Proofs.YtmlgonbhoknoiabGreatDoor
