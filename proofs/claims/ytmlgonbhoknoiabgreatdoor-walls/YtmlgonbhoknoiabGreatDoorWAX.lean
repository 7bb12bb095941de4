import Derived.Test.YtmlgonbhoknoiabGreatDoorWAU
set_option maxHeartbeats 8000000
set_option maxRecDepth 100000
set_option linter.all false
namespace Go.Proofs.YtmlgonbhoknoiabGreatDoor
open Go.RowKit Go.Proofs.Tryz
section
attribute [local go_sem ↓] Go.wp_at_zero Go.wp_at_succ
theorem k_alarm (a b : Int) (w : World) : Calls prog 43 #[.int .i64 a, .int .i64 b] w fun o w' => BoolR o /\ Kept [] w w' := by
 go_enter func43, ntmps43
 go_wp2_with fail
 refine (k_built _ _ _ w).mono ?_
 rintro o w1 ⟨rfl | ⟨mb, rb, l1, l2, rfl, hm⟩, hk⟩
 . exact zq383
 have M1 := hide1 hm
 have K1 := hide1 hk
 clear hm hk
 go_wp2_with fail
 refine (m_Run mb rb _ 8 w1 M1.out).mono ?_
 rintro o w2 ⟨⟨v, er, q0, q1, rfl⟩, hm, hk⟩
 have M2 := hide1 hm
 have K2 := hide1 (kept_new K1.out hk l1 l2)
 clear hm hk M1 K1
 go_wp2_with fail
 refine (m_Tick mb rb _ a w2 M2.out).mono ?_
 rintro o w3 ⟨⟨er, rfl⟩, hm, hk⟩
 have M3 := hide1 hm
 have K3 := hide1 (kept_new K2.out hk l1 l2)
 clear hm hk M2 K2
 go_wp2_with fail
 refine (m_Run mb rb _ 12 w3 M3.out).mono ?_
 rintro o w4 ⟨⟨v, er, q0, q1, rfl⟩, hm, hk⟩
 have M4 := hide1 hm
 have K4 := hide1 (kept_new K3.out hk l1 l2)
 clear hm hk M3 K3
 have CR := hide1 (fun i => k_csr mb rb i w4 (hide1 M4.out.m))
 have RG := hide1 (fun i => m_Reg0 mb rb w4 M4.out.m i)
 go_wp2_with (first | (go_at_call 95; refine (CR.out _).mono ?_; rintro o wq ⟨⟨v, h0, h1, rfl⟩, hkq⟩; have KQ := hide1 (K4.out.trans hkq); clear hkq) | (go_at_call 91; refine (RG.out _).mono ?_; rintro o wq ⟨⟨v, h0, h1, rfl⟩, hwq⟩; rw [hwq]; clear hwq wq))
 all_goals
  go_ret
  first | exact ⟨⟨_, rfl⟩, K4.out⟩ | exact ⟨⟨_, rfl⟩, KQ.out⟩
theorem k_echo (s : ByteArray) (hs : s.size <= 1125899906842624) (w : World) : Calls prog 42 #[.string s] w fun o w' => BoolR o /\ Kept [] w w' := by
 go_enter func42, ntmps42
 go_wp2_with fail
 refine (k_built _ _ _ w).mono ?_
 rintro o w1 ⟨rfl | ⟨mb, rb, l1, l2, rfl, hm⟩, hk⟩
 . exact zq383
 have M1 := hide1 hm
 have K1 := hide1 hk
 clear hm hk
 go_wp2_with fail
 refine (m_Feed mb rb _ s w1 M1.out).mono ?_
 rintro o w2 ⟨⟨nf, ef, f0, f1, f2, rfl⟩, hm, hk⟩
 have M2 := hide1 hm
 have K2 := hide1 (kept_new K1.out hk l1 l2)
 clear hm hk M1 K1
 go_wp2_with fail
 refine (m_Run mb rb _ 64 w2 M2.out).mono ?_
 rintro o w3 ⟨⟨v, er, q0, q1, rfl⟩, hm, hk⟩
 have M3 := hide1 hm
 have K3 := hide1 (kept_new K2.out hk l1 l2)
 clear hm hk M2 K2
 go_wp2_with fail
 refine (m_Drain mb rb _ w3 M3.out).mono ?_
 rintro o w4 ⟨⟨sd, dz, rfl⟩, hm, hk⟩
 have M4 := hide1 hm
 have K4 := hide1 (kept_new K3.out hk l1 l2)
 clear hm hk M3 K3
 have RG := hide1 (fun i => m_Reg0 mb rb w4 M4.out.m i)
 go_wp2_with (first | (go_at_call 91; refine (RG.out _).mono ?_; rintro o wq ⟨⟨v, h0, h1, rfl⟩, hwq⟩; rw [hwq]; clear hwq wq))
 all_goals
  go_ret
  exact ⟨⟨_, rfl⟩, K4.out⟩
theorem k_amos (a b : Int) (w : World) : Calls prog 49 #[.int .i64 a, .int .i64 b] w fun o w' => BoolR o /\ Kept [] w w' := by
 go_enter func49, ntmps49
 go_wp2_with fail
 refine (k_built _ _ _ w).mono ?_
 rintro o w1 ⟨rfl | ⟨mb, rb, l1, l2, rfl, hm⟩, hk⟩
 . exact zq383
 have M1 := hide1 hm
 have K1 := hide1 hk
 clear hm hk
 go_wp2_with fail
 refine (m_Run mb rb _ 30 w1 M1.out).mono ?_
 rintro o w2 ⟨⟨v, er, q0, q1, rfl⟩, hm, hk⟩
 have M2 := hide1 hm
 have K2 := hide1 (kept_new K1.out hk l1 l2)
 clear hm hk M1 K1
 have RG := hide1 (fun i => m_Reg0 mb rb w2 M2.out.m i)
 by_cases h30 : v = 30
 . subst h30
   go_wp2_with fail
   go_loopw [8] (fun c wr => ∃ i : Nat, i <= 21 /\ c = .int .i64 i /\ wr = w2) (fun c _ => 30 - (intOf c).toNat)
   case atStart => exact ⟨3, by omega, rfl, rfl⟩
   case round =>
    obtain ⟨i, hi, rfl, rfl⟩ := hrel
    by_cases hlt : i < 20
    . have hlt' : decide ((i : Int) < 20) = true := by simp; omega
      go_wp2_with (first | (go_at_call 91; refine (RG.out _).mono ?_; rintro o wq ⟨⟨v, h0, h1, rfl⟩, hwq⟩; rw [hwq]; clear hwq wq))
      all_goals first
       | (go_ret; exact ⟨⟨_, rfl⟩, K2.out⟩)
       | (go_roundw
          case rel => exact ⟨i + 2, by omega, by go_num, by first | rfl | trivial⟩
          case measure => simp [intOf]; omega)
    . have hlt' : decide ((i : Int) < 20) = false := by simp; omega
      go_wp2_with (first | (go_at_call 91; refine (RG.out _).mono ?_; rintro o wq ⟨⟨v, h0, h1, rfl⟩, hwq⟩; rw [hwq]; clear hwq wq) | (go_at_call 98; refine (k_minusA _ _).mono ?_; rintro o wq ⟨⟨vm, rfl⟩, hwq⟩; rw [hwq]; clear hwq wq))
      all_goals
       go_ret
       exact ⟨⟨_, rfl⟩, K2.out⟩
 . have q : (v != 30) = true := by simp [h30]
   have q' : (v == 30) = false := by simp [h30]
   clear h30
   go_wp2_with fail
   go_ret
   exact ⟨⟨_, rfl⟩, K2.out⟩
theorem k_mapper (s : ByteArray) (va v root low : Int) (w : World) : Calls prog 96 #[.string s, .int .i64 va, .int .i64 v, .int .i64 root, .int .i64 low] w fun e w' => MadeR w w' 16384 e := by
 have N := hide1 (m_New 16384 (by decide) w)
 go_enter func96, ntmps96
 go_wp2_with fail
 refine N.out.mono ?_
 rintro o w1 ⟨rfl, hm1, hk1⟩
 have M1 := hide1 hm1
 have K1 := hide1 hk1
 clear N hm1 hk1
 go_wp2_with fail
 refine (a_Asm' s _).mono ?_
 rintro o w2 ⟨⟨X, er, n, rfl⟩, hk2⟩
 have M2 := hide1 (M1.out.kept hk2)
 have K2 := hide1 (K1.out.trans hk2)
 clear hk2 M1 K1
 by_cases her : er = 0
 . have q : (er != 0) = false := by simp [her]
   have q' : (er == 0) = true := by simp [her]
   clear her
   go_wp2_with fail
   refine (m_Load _ _ _ _ _ w2 M2.out).mono ?_
   rintro o w3 ⟨⟨e2, rfl⟩, hm, hk⟩
   have M3 := hide1 hm
   have K3 := hide1 (kept_new K2.out hk (by omega) (by omega))
   clear hm hk M2 K2
   go_wp2_with fail
   refine (u_Le4' _ _).mono ?_
   rintro o w4 ⟨⟨A0, hA0, rfl⟩, hk⟩
   have M4 := hide1 (M3.out.kept hk)
   have K4 := hide1 (K3.out.trans hk)
   clear hk M3 K3
   go_wp2_with fail
   refine (m_Load _ _ _ _ _ w4 M4.out).mono ?_
   rintro o w5 ⟨⟨e4, rfl⟩, hm, hk⟩
   have M5 := hide1 hm
   have K5 := hide1 (kept_new K4.out hk (by omega) (by omega))
   clear hm hk M4 K4
   go_wp2_with fail
   refine (u_Le4' _ _).mono ?_
   rintro o w6 ⟨⟨A, hA, rfl⟩, hk⟩
   have M6 := hide1 (M5.out.kept hk)
   have K6 := hide1 (K5.out.trans hk)
   clear hk M5 K5
   go_wp2_with fail
   refine (u_Le4' _ _).mono ?_
   rintro o w7 ⟨⟨B, hB, rfl⟩, hk⟩
   have M7 := hide1 (M6.out.kept hk)
   have K7 := hide1 (K6.out.trans hk)
   clear hk M6 K6
   go_wp2_with fail
   refine (u_Le4' _ _).mono ?_
   rintro o w8 ⟨⟨C, hC, rfl⟩, hk⟩
   have M8 := hide1 (M7.out.kept hk)
   have K8 := hide1 (K7.out.trans hk)
   clear hk M7 K7
   go_wp2_with fail
   refine (u_Le4' _ _).mono ?_
   rintro o w9 ⟨⟨D, hD, rfl⟩, hk⟩
   have M9 := hide1 (M8.out.kept hk)
   have K9 := hide1 (K8.out.trans hk)
   clear hk M8 K8
   obtain ⟨c1, g1, z1, hc1⟩ := add_in A B (by omega)
   obtain ⟨c2, g2, z2, hc2⟩ := add_in c1 C (by omega)
   obtain ⟨c3, g3, z3, hc3⟩ := add_in c2 D (by omega)
   clear g1 g2 g3 z1 z2 z3 hA hB hC hD hA0
   go_wp2_with fail
   refine (m_Load _ _ _ _ _ w9 M9.out).mono ?_
   rintro o w10 ⟨⟨e9, rfl⟩, hm, hk⟩
   have M10 := hide1 hm
   have K10 := hide1 (kept_new K9.out hk (by omega) (by omega))
   clear hm hk M9 K9
   go_wp2_with fail
   refine (u_Le4' _ _).mono ?_
   rintro o w11 ⟨⟨F, hF, rfl⟩, hk⟩
   have M11 := hide1 (M10.out.kept hk)
   have K11 := hide1 (K10.out.trans hk)
   clear hk M10 K10
   go_wp2_with fail
   refine (m_Load _ _ _ _ _ w11 M11.out).mono ?_
   rintro o w12 ⟨⟨e11, rfl⟩, hm, hk⟩
   have M12 := hide1 hm
   have K12 := hide1 (kept_new K11.out hk (by omega) (by omega))
   clear hm hk M11 K11
   go_wp2_with fail
   refine (u_Le4' _ _).mono ?_
   rintro o w13 ⟨⟨G, hG, rfl⟩, hk⟩
   have M13 := hide1 (M12.out.kept hk)
   have K13 := hide1 (K12.out.trans hk)
   clear hk M12 K12
   go_wp2_with fail
   refine (m_Load _ _ _ _ _ w13 M13.out).mono ?_
   rintro o w14 ⟨⟨e13, rfl⟩, hm, hk⟩
   have M14 := hide1 hm
   have K14 := hide1 (kept_new K13.out hk (by omega) (by omega))
   clear hm hk M13 K13
   go_wp2_with fail
   go_ret
   exact ⟨.inr ⟨_, _, by omega, by omega, rfl, M14.out⟩, K14.out⟩
 . exact zq363
theorem and_any (a : Int) (c : Nat) (hc : c < 9223372036854775808) : bits .and .i64 a (c : Int) = (((a % 18446744073709551616).toNat &&& c : Nat) : Int) := by
 have hx : bits .and .i64 a (c : Int) = IntKind.i64.wrap (((BitVec.ofInt 64 a &&& BitVec.ofInt 64 (c : Int)).toNat : Nat) : Int) := rfl
 have h1 : (BitVec.ofInt 64 a).toNat = (a % 18446744073709551616).toNat := by simp [BitVec.toNat_ofInt]
 rw [hx, BitVec.toNat_and, h1, bv_nat c hc]
 exact wrap_nat63 _ (Nat.lt_of_le_of_lt Nat.and_le_right hc)
theorem va_any (a : Int) : ∃ n : Nat, n <= 4294967292 /\ n % 4 = 0 /\ bits .and .i64 a 4294967292 = (n : Int) := by
 refine ⟨(a % 18446744073709551616).toNat &&& 4294967292, Nat.and_le_right, ?_, and_any a 4294967292 (by decide)⟩
 have h := bit_andN (a % 18446744073709551616).toNat 4294967292 0
 have h2 := bit_andN (a % 18446744073709551616).toNat 4294967292 1
 simp at h h2
 omega
theorem v_any (a : Int) : ∃ n : Nat, n <= 4294967295 /\ bits .and .i64 a 4294967295 = (n : Int) :=
 ⟨(a % 18446744073709551616).toNat &&& 4294967295, Nat.and_le_right, and_any a 4294967295 (by decide)⟩
theorem va_big (n : Nat) (h : n <= 4294967292) (h4 : n % 4 = 0) : ∃ m : Nat, m <= 4294967292 /\ m % 4 = 0 /\ bits .or .i64 (bits .or .i64 (bits .andNot .i64 (n : Int) 4194303) 12288) (bits .and .i64 (n : Int) 4095) = (m : Int) := by
 have e1 : bits .andNot .i64 (n : Int) 4194303 = ((wout n 4194303 : Nat) : Int) := b_andn n 4194303 (by omega) (by decide)
 have hw := wout_le n 4194303
 have e2 : bits .or .i64 ((wout n 4194303 : Nat) : Int) 12288 = ((wout n 4194303 ||| 12288 : Nat) : Int) := b_or _ 12288 (by omega) (by decide)
 have e3 : bits .and .i64 (n : Int) 4095 = ((n &&& 4095 : Nat) : Int) := b_and n 4095 (by omega) (by decide)
 have l2 : wout n 4194303 ||| 12288 < 4294967296 := nat_or_lt _ _ 32 (by omega) (by decide)
 have l3 : n &&& 4095 <= 4095 := Nat.and_le_right
 have e4 := b_or (wout n 4194303 ||| 12288) (n &&& 4095) (by omega) (by omega)
 have l4 : (wout n 4194303 ||| 12288) ||| (n &&& 4095) < 4294967296 := nat_or_lt _ _ 32 l2 (by omega)
 have m4 : ((wout n 4194303 ||| 12288) ||| (n &&& 4095)) % 4 = 0 := by
  have b0 := bit_orN (wout n 4194303 ||| 12288) (n &&& 4095) 0
  have b1 := bit_orN (wout n 4194303 ||| 12288) (n &&& 4095) 1
  have c0 := bit_andN n 4095 0
  have c1 := bit_andN n 4095 1
  have d0 := bit_orN (wout n 4194303) 12288 0
  have d1 := bit_orN (wout n 4194303) 12288 1
  have f0 := bit_woutN n 4194303 0
  have f1 := bit_woutN n 4194303 1
  simp at b0 b1 c0 c1 d0 d1 f0 f1
  have g0 : n % 2 = 0 := by omega
  have g1 : n / 2 % 2 = 0 := by omega
  rw [g1] at c1
  simp [g0, d0, f0] at b0
  simp [c1, d1, f1] at b1
  omega
 exact ⟨_, by omega, m4, by rw [e1, e2, e3, e4]⟩
end
end Go.Proofs.YtmlgonbhoknoiabGreatDoor
