import Derived.Test.YtmlgonbhoknoiabGreatDoorVAR
import Derived.Test.YtmlgonbhoknoiabGreatDoorVAU
set_option maxHeartbeats 8000000
set_option linter.all false
namespace Go.Proofs.YtmlgonbhoknoiabGreatDoor
open Go.RowKit Go.Proofs.Tryz
section
attribute [local go_sem ↓] Go.wp_at_zero Go.wp_at_succ
set_option maxRecDepth 100000 in
theorem k_self (k : Int) (w : World) : Calls prog 44 #[.int .i64 k] w fun o w' => BoolR o /\ Kept [] w w' := by
 go_enter func44, ntmps44
 go_wp2_with fail
 refine (k_built _ _ _ w).mono ?_
 rintro o w1 ⟨rfl | ⟨mb, rb, l1, l2, rfl, hm⟩, hk⟩
 . exact zq381
 have M1 := hide1 hm
 have K1 := hide1 hk
 clear hm hk
 go_wp2_with fail
 refine (m_Run mb rb _ 12 w1 M1.out).mono ?_
 exact zq382
set_option maxRecDepth 100000 in
theorem k_mapper (s : ByteArray) (va v root low : Int) (w : World) : Calls prog 96 #[.string s, .int .i64 va, .int .i64 v, .int .i64 root, .int .i64 low] w fun e w' => MadeR w w' 16384 e := by
 have N := hide1 (m_New 16384 (by decide) w)
 go_enter func96, ntmps96
 go_wp2_with fail
 refine N.out.mono ?_
 rintro o w1 ⟨rfl, hm1, hk1⟩
 have M1 := hide1 hm1
 have K1 := hide1 hk1
 clear N hm1 hk1
 go_wp2_with fail
 refine (a_Asm' s _).mono ?_
 rintro o w2 ⟨⟨X, er, n, rfl⟩, hk2⟩
 have M2 := hide1 (M1.out.kept hk2)
 have K2 := hide1 (K1.out.trans hk2)
 clear hk2 M1 K1
 by_cases her : er = 0
 . have q : (er != 0) = false := by simp [her]
   have q' : (er == 0) = true := by simp [her]
   clear her
   go_wp2_with fail
   refine (m_Load _ _ _ _ _ w2 M2.out).mono ?_
   rintro o w3 ⟨⟨e2, rfl⟩, hm, hk⟩
   have M3 := hide1 hm
   have K3 := hide1 (kept_new K2.out hk (by omega) (by omega))
   clear hm hk M2 K2
   go_wp2_with fail
   refine (u_Le4' _ _).mono ?_
   rintro o w4 ⟨⟨A0, hA0, rfl⟩, hk⟩
   have M4 := hide1 (M3.out.kept hk)
   have K4 := hide1 (K3.out.trans hk)
   clear hk M3 K3
   go_wp2_with fail
   refine (m_Load _ _ _ _ _ w4 M4.out).mono ?_
   rintro o w5 ⟨⟨e4, rfl⟩, hm, hk⟩
   have M5 := hide1 hm
   have K5 := hide1 (kept_new K4.out hk (by omega) (by omega))
   clear hm hk M4 K4
   go_wp2_with fail
   refine (u_Le4' _ _).mono ?_
   rintro o w6 ⟨⟨A, hA, rfl⟩, hk⟩
   have M6 := hide1 (M5.out.kept hk)
   have K6 := hide1 (K5.out.trans hk)
   clear hk M5 K5
   go_wp2_with fail
   refine (u_Le4' _ _).mono ?_
   rintro o w7 ⟨⟨B, hB, rfl⟩, hk⟩
   have M7 := hide1 (M6.out.kept hk)
   have K7 := hide1 (K6.out.trans hk)
   clear hk M6 K6
   go_wp2_with fail
   refine (u_Le4' _ _).mono ?_
   rintro o w8 ⟨⟨C, hC, rfl⟩, hk⟩
   have M8 := hide1 (M7.out.kept hk)
   have K8 := hide1 (K7.out.trans hk)
   clear hk M7 K7
   go_wp2_with fail
   refine (u_Le4' _ _).mono ?_
   rintro o w9 ⟨⟨D, hD, rfl⟩, hk⟩
   have M9 := hide1 (M8.out.kept hk)
   have K9 := hide1 (K8.out.trans hk)
   clear hk M8 K8
   obtain ⟨c1, g1, z1, hc1⟩ := add_in A B (by omega)
   obtain ⟨c2, g2, z2, hc2⟩ := add_in c1 C (by omega)
   obtain ⟨c3, g3, z3, hc3⟩ := add_in c2 D (by omega)
   clear g1 g2 g3 z1 z2 z3 hA hB hC hD hA0
   go_wp2_with fail
   refine (m_Load _ _ _ _ _ w9 M9.out).mono ?_
   rintro o w10 ⟨⟨e9, rfl⟩, hm, hk⟩
   have M10 := hide1 hm
   have K10 := hide1 (kept_new K9.out hk (by omega) (by omega))
   clear hm hk M9 K9
   go_wp2_with fail
   refine (u_Le4' _ _).mono ?_
   rintro o w11 ⟨⟨F, hF, rfl⟩, hk⟩
   have M11 := hide1 (M10.out.kept hk)
   have K11 := hide1 (K10.out.trans hk)
   clear hk M10 K10
   go_wp2_with fail
   refine (m_Load _ _ _ _ _ w11 M11.out).mono ?_
   rintro o w12 ⟨⟨e11, rfl⟩, hm, hk⟩
   have M12 := hide1 hm
   have K12 := hide1 (kept_new K11.out hk (by omega) (by omega))
   clear hm hk M11 K11
   go_wp2_with fail
   refine (u_Le4' _ _).mono ?_
   rintro o w13 ⟨⟨G, hG, rfl⟩, hk⟩
   have M13 := hide1 (M12.out.kept hk)
   have K13 := hide1 (K12.out.trans hk)
   clear hk M12 K12
   go_wp2_with fail
   refine (m_Load _ _ _ _ _ w13 M13.out).mono ?_
   rintro o w14 ⟨⟨e13, rfl⟩, hm, hk⟩
   have M14 := hide1 hm
   have K14 := hide1 (kept_new K13.out hk (by omega) (by omega))
   clear hm hk M13 K13
   go_wp2_with fail
   go_ret
   exact ⟨.inr ⟨_, _, by omega, by omega, rfl, M14.out⟩, K14.out⟩
 . exact zq361
theorem and_any (a : Int) (c : Nat) (hc : c < 9223372036854775808) : bits .and .i64 a (c : Int) = (((a % 18446744073709551616).toNat &&& c : Nat) : Int) := by
 have hx : bits .and .i64 a (c : Int) = IntKind.i64.wrap (((BitVec.ofInt 64 a &&& BitVec.ofInt 64 (c : Int)).toNat : Nat) : Int) := rfl
 have h1 : (BitVec.ofInt 64 a).toNat = (a % 18446744073709551616).toNat := by simp [BitVec.toNat_ofInt]
 rw [hx, BitVec.toNat_and, h1, bv_nat c hc]
 exact wrap_nat63 _ (Nat.lt_of_le_of_lt Nat.and_le_right hc)
theorem va_any (a : Int) : ∃ n : Nat, n <= 4294967292 /\ n % 4 = 0 /\ bits .and .i64 a 4294967292 = (n : Int) := by
 refine ⟨(a % 18446744073709551616).toNat &&& 4294967292, Nat.and_le_right, ?_, and_any a 4294967292 (by decide)⟩
 have h := bit_andN (a % 18446744073709551616).toNat 4294967292 0
 have h2 := bit_andN (a % 18446744073709551616).toNat 4294967292 1
 simp at h h2
 omega
theorem v_any (a : Int) : ∃ n : Nat, n <= 4294967295 /\ bits .and .i64 a 4294967295 = (n : Int) :=
 ⟨(a % 18446744073709551616).toNat &&& 4294967295, Nat.and_le_right, and_any a 4294967295 (by decide)⟩
theorem va_big (n : Nat) (h : n <= 4294967292) (h4 : n % 4 = 0) : ∃ m : Nat, m <= 4294967292 /\ m % 4 = 0 /\ bits .or .i64 (bits .or .i64 (bits .andNot .i64 (n : Int) 4194303) 12288) (bits .and .i64 (n : Int) 4095) = (m : Int) := by
 have e1 : bits .andNot .i64 (n : Int) 4194303 = ((wout n 4194303 : Nat) : Int) := b_andn n 4194303 (by omega) (by decide)
 have hw := wout_le n 4194303
 have e2 : bits .or .i64 ((wout n 4194303 : Nat) : Int) 12288 = ((wout n 4194303 ||| 12288 : Nat) : Int) := b_or _ 12288 (by omega) (by decide)
 have e3 : bits .and .i64 (n : Int) 4095 = ((n &&& 4095 : Nat) : Int) := b_and n 4095 (by omega) (by decide)
 have l2 : wout n 4194303 ||| 12288 < 4294967296 := nat_or_lt _ _ 32 (by omega) (by decide)
 have l3 : n &&& 4095 <= 4095 := Nat.and_le_right
 have e4 := b_or (wout n 4194303 ||| 12288) (n &&& 4095) (by omega) (by omega)
 have l4 : (wout n 4194303 ||| 12288) ||| (n &&& 4095) < 4294967296 := nat_or_lt _ _ 32 l2 (by omega)
 have m4 : ((wout n 4194303 ||| 12288) ||| (n &&& 4095)) % 4 = 0 := by
  have b0 := bit_orN (wout n 4194303 ||| 12288) (n &&& 4095) 0
  have b1 := bit_orN (wout n 4194303 ||| 12288) (n &&& 4095) 1
  have c0 := bit_andN n 4095 0
  have c1 := bit_andN n 4095 1
  have d0 := bit_orN (wout n 4194303) 12288 0
  have d1 := bit_orN (wout n 4194303) 12288 1
  have f0 := bit_woutN n 4194303 0
  have f1 := bit_woutN n 4194303 1
  simp at b0 b1 c0 c1 d0 d1 f0 f1
  have g0 : n % 2 = 0 := by omega
  have g1 : n / 2 % 2 = 0 := by omega
  rw [g1] at c1
  simp [g0, d0, f0] at b0
  simp [c1, d1, f1] at b1
  omega
 exact ⟨_, by omega, m4, by rw [e1, e2, e3, e4]⟩
theorem k_regS (mb rb : Nat) (X : XS) (i : Int) (w : World) (hw : XAt w mb rb X) : CS 91 #[.pointer (some ⟨mb, 0, none⟩), .int .i64 i] (.int .i64 (regU X.x i).1) w := by
 have R := hide1 (ux_Reg mb rb X i w hw)
 generalize (regU X.x i).1 = a at R |-
 generalize (regU X.x i).2 = b at R
 go_enter func91, ntmps91
 go_wp2_with fail
 refine R.out.mono ?_
 rintro o w1 ⟨rfl, hw1⟩
 rw [hw1]
 exact zq204
def ldsC : List UInt8 := [151, 15, 0, 0, 131, 160, 15, 64, 3, 161, 79, 64, 131, 129, 15, 64, 3, 194, 15, 64, 131, 146, 15, 64, 3, 211, 15, 64, 131, 163, 31, 64, 3, 148, 63, 64, 163, 136, 47, 64, 35, 155, 47, 64, 35, 173, 47, 64, 131, 164, 15, 65, 3, 165, 79, 65, 131, 165, 143, 65, 3, 166, 207, 65, 183, 86, 52, 18, 55, 247, 255, 255, 151, 23, 0, 0, 111, 8, 128, 0, 147, 8, 16, 0, 103, 137, 207, 5, 147, 136, 40, 0, 147, 137, 159, 255]
theorem lds_zero (a b : Int) (j : Nat) (h0 : 1032 <= j) (h1 : j < 1056) : bt (bltX ldsC a b) j = 0 := by
 unfold bt
 rw [blt_getD, if_neg (by omega)]
 unfold bltR
 rw [laidB_getD _ _ _ _ (by rw [List.length_replicate]; decide), if_neg (by rw [show ldsC.length = 96 from rfl]; omega), List.getD_eq_getElem?_getD, List.getElem?_replicate]
 split <;> rfl
set_option maxRecDepth 100000 in
theorem lds_road (X : XS) (R S : List UInt8) (h0 : Rn ldsC X R (List.replicate 32 0) 0) (A B v3 v4 v5 v6 v7 v8 v9 v10 v12 : Nat) (hS : S = stN (stN (stN R 1041 1 B) 1046 2 B) 1050 4 B) (l1 : ldvD 13 (ldN ((R.drop 1024).take (nD 13))) = A) (l2 : ldvD 13 (ldN ((R.drop 1028).take (nD 13))) = B) (l3 : ldvD 11 (ldN ((R.drop 1024).take (nD 11))) = v3) (l4 : ldvD 14 (ldN ((R.drop 1024).take (nD 14))) = v4) (l5 : ldvD 12 (ldN ((R.drop 1024).take (nD 12))) = v5) (l6 : ldvD 15 (ldN ((R.drop 1024).take (nD 15))) = v6) (l7 : ldvD 13 (ldN ((R.drop 1025).take (nD 13))) = v7) (l8 : ldvD 12 (ldN ((R.drop 1027).take (nD 12))) = v8) (l9 : ldvD 13 (ldN ((S.drop 1040).take (nD 13))) = v9) (l10 : ldvD 13 (ldN ((S.drop 1044).take (nD 13))) = v10) (l11 : ldvD 13 (ldN ((S.drop 1048).take (nD 13))) = v10) (l12 : ldvD 13 (ldN ((S.drop 1052).take (nD 13))) = v12) : ∃ Y, runG 22 0 X = (22, Y) /\ Y.x = [0, A, B, v3, v4, v5, v6, v7, v8, v9, v10, v10, v12, 305418240, 4294963200, 2147487816, 2147483728, 0, 2147483736, 2147483641, 0, 0, 0, 0, 0, 0, 0, 0, 0, 0, 0, 2147483648] := by
 obtain ⟨X1, h1, e1⟩ := (h0.alu ⟨2, 31, 0, 0, 0, 4⟩ (by kernel_rfl) (by decide) 2147483648 (by kernel_rfl)).cast [0, 0, 0, 0, 0, 0, 0, 0, 0, 0, 0, 0, 0, 0, 0, 0, 0, 0, 0, 0, 0, 0, 0, 0, 0, 0, 0, 0, 0, 0, 0, 2147483648] (by kernel_rfl)
 obtain ⟨X2, h2, e2⟩ := (h1.load ⟨13, 1, 31, 0, 1024, 4⟩ (by kernel_rfl) 1024 (by decide) (by kernel_rfl) A l1).cast [0, A, 0, 0, 0, 0, 0, 0, 0, 0, 0, 0, 0, 0, 0, 0, 0, 0, 0, 0, 0, 0, 0, 0, 0, 0, 0, 0, 0, 0, 0, 2147483648] (by kernel_rfl)
 obtain ⟨X3, h3, e3⟩ := (h2.load ⟨13, 2, 31, 0, 1028, 4⟩ (by kernel_rfl) 1028 (by decide) (by kernel_rfl) B l2).cast [0, A, B, 0, 0, 0, 0, 0, 0, 0, 0, 0, 0, 0, 0, 0, 0, 0, 0, 0, 0, 0, 0, 0, 0, 0, 0, 0, 0, 0, 0, 2147483648] (by kernel_rfl)
 obtain ⟨X4, h4, e4⟩ := (h3.load ⟨11, 3, 31, 0, 1024, 4⟩ (by kernel_rfl) 1024 (by decide) (by kernel_rfl) v3 l3).cast [0, A, B, v3, 0, 0, 0, 0, 0, 0, 0, 0, 0, 0, 0, 0, 0, 0, 0, 0, 0, 0, 0, 0, 0, 0, 0, 0, 0, 0, 0, 2147483648] (by kernel_rfl)
 obtain ⟨X5, h5, e5⟩ := (h4.load ⟨14, 4, 31, 0, 1024, 4⟩ (by kernel_rfl) 1024 (by decide) (by kernel_rfl) v4 l4).cast [0, A, B, v3, v4, 0, 0, 0, 0, 0, 0, 0, 0, 0, 0, 0, 0, 0, 0, 0, 0, 0, 0, 0, 0, 0, 0, 0, 0, 0, 0, 2147483648] (by kernel_rfl)
 obtain ⟨X6, h6, e6⟩ := (h5.load ⟨12, 5, 31, 0, 1024, 4⟩ (by kernel_rfl) 1024 (by decide) (by kernel_rfl) v5 l5).cast [0, A, B, v3, v4, v5, 0, 0, 0, 0, 0, 0, 0, 0, 0, 0, 0, 0, 0, 0, 0, 0, 0, 0, 0, 0, 0, 0, 0, 0, 0, 2147483648] (by kernel_rfl)
 obtain ⟨X7, h7, e7⟩ := (h6.load ⟨15, 6, 31, 0, 1024, 4⟩ (by kernel_rfl) 1024 (by decide) (by kernel_rfl) v6 l6).cast [0, A, B, v3, v4, v5, v6, 0, 0, 0, 0, 0, 0, 0, 0, 0, 0, 0, 0, 0, 0, 0, 0, 0, 0, 0, 0, 0, 0, 0, 0, 2147483648] (by kernel_rfl)
 obtain ⟨X8, h8, e8⟩ := (h7.load ⟨13, 7, 31, 0, 1025, 4⟩ (by kernel_rfl) 1025 (by decide) (by kernel_rfl) v7 l7).cast [0, A, B, v3, v4, v5, v6, v7, 0, 0, 0, 0, 0, 0, 0, 0, 0, 0, 0, 0, 0, 0, 0, 0, 0, 0, 0, 0, 0, 0, 0, 2147483648] (by kernel_rfl)
 obtain ⟨X9, h9, e9⟩ := (h8.load ⟨12, 8, 31, 0, 1027, 4⟩ (by kernel_rfl) 1027 (by decide) (by kernel_rfl) v8 l8).cast [0, A, B, v3, v4, v5, v6, v7, v8, 0, 0, 0, 0, 0, 0, 0, 0, 0, 0, 0, 0, 0, 0, 0, 0, 0, 0, 0, 0, 0, 0, 2147483648] (by kernel_rfl)
 obtain ⟨X10, h10, e10⟩ := h9.store ⟨16, 0, 31, 2, 1041, 4⟩ (by kernel_rfl) 1041 (by decide) (by kernel_rfl) B (by kernel_rfl)
 obtain ⟨X11, h11, e11⟩ := h10.store ⟨17, 0, 31, 2, 1046, 4⟩ (by kernel_rfl) 1046 (by decide) (by kernel_rfl) B (by kernel_rfl)
 obtain ⟨X12, h12, e12⟩ := h11.store ⟨18, 0, 31, 2, 1050, 4⟩ (by kernel_rfl) 1050 (by decide) (by kernel_rfl) B (by kernel_rfl)
 replace h12 : Rn ldsC X12 (stN (stN (stN R 1041 1 B) 1046 2 B) 1050 4 B) _ 48 := h12
 rw [<- hS] at h12
 obtain ⟨X13, h13, e13⟩ := (h12.load ⟨13, 9, 31, 0, 1040, 4⟩ (by kernel_rfl) 1040 (by decide) (by kernel_rfl) v9 l9).cast [0, A, B, v3, v4, v5, v6, v7, v8, v9, 0, 0, 0, 0, 0, 0, 0, 0, 0, 0, 0, 0, 0, 0, 0, 0, 0, 0, 0, 0, 0, 2147483648] (by kernel_rfl)
 obtain ⟨X14, h14, e14⟩ := (h13.load ⟨13, 10, 31, 0, 1044, 4⟩ (by kernel_rfl) 1044 (by decide) (by kernel_rfl) v10 l10).cast [0, A, B, v3, v4, v5, v6, v7, v8, v9, v10, 0, 0, 0, 0, 0, 0, 0, 0, 0, 0, 0, 0, 0, 0, 0, 0, 0, 0, 0, 0, 2147483648] (by kernel_rfl)
 obtain ⟨X15, h15, e15⟩ := (h14.load ⟨13, 11, 31, 0, 1048, 4⟩ (by kernel_rfl) 1048 (by decide) (by kernel_rfl) v10 l11).cast [0, A, B, v3, v4, v5, v6, v7, v8, v9, v10, v10, 0, 0, 0, 0, 0, 0, 0, 0, 0, 0, 0, 0, 0, 0, 0, 0, 0, 0, 0, 2147483648] (by kernel_rfl)
 obtain ⟨X16, h16, e16⟩ := (h15.load ⟨13, 12, 31, 0, 1052, 4⟩ (by kernel_rfl) 1052 (by decide) (by kernel_rfl) v12 l12).cast [0, A, B, v3, v4, v5, v6, v7, v8, v9, v10, v10, v12, 0, 0, 0, 0, 0, 0, 0, 0, 0, 0, 0, 0, 0, 0, 0, 0, 0, 0, 2147483648] (by kernel_rfl)
 obtain ⟨X17, h17, e17⟩ := (h16.alu ⟨1, 13, 0, 0, 74565, 4⟩ (by kernel_rfl) (by decide) 305418240 (by kernel_rfl)).cast [0, A, B, v3, v4, v5, v6, v7, v8, v9, v10, v10, v12, 305418240, 0, 0, 0, 0, 0, 0, 0, 0, 0, 0, 0, 0, 0, 0, 0, 0, 0, 2147483648] (by kernel_rfl)
 obtain ⟨X18, h18, e18⟩ := (h17.alu ⟨1, 14, 0, 0, -1, 4⟩ (by kernel_rfl) (by decide) 4294963200 (by kernel_rfl)).cast [0, A, B, v3, v4, v5, v6, v7, v8, v9, v10, v10, v12, 305418240, 4294963200, 0, 0, 0, 0, 0, 0, 0, 0, 0, 0, 0, 0, 0, 0, 0, 0, 2147483648] (by kernel_rfl)
 obtain ⟨X19, h19, e19⟩ := (h18.alu ⟨2, 15, 0, 0, 1, 4⟩ (by kernel_rfl) (by decide) 2147487816 (by kernel_rfl)).cast [0, A, B, v3, v4, v5, v6, v7, v8, v9, v10, v10, v12, 305418240, 4294963200, 2147487816, 0, 0, 0, 0, 0, 0, 0, 0, 0, 0, 0, 0, 0, 0, 0, 2147483648] (by kernel_rfl)
 obtain ⟨X20, h20, e20⟩ := (h19.jump ⟨3, 16, 0, 0, 8, 4⟩ (by kernel_rfl) (by decide) 84 2147483728 (by decide) (fun _ => by kernel_rfl) (fun h => by cases h)).cast [0, A, B, v3, v4, v5, v6, v7, v8, v9, v10, v10, v12, 305418240, 4294963200, 2147487816, 2147483728, 0, 0, 0, 0, 0, 0, 0, 0, 0, 0, 0, 0, 0, 0, 2147483648] (by kernel_rfl)
 obtain ⟨X21, h21, e21⟩ := (h20.jump ⟨4, 18, 31, 0, 92, 4⟩ (by kernel_rfl) (by decide) 92 2147483736 (by decide) (fun h => by cases h) (fun _ => by kernel_rfl)).cast [0, A, B, v3, v4, v5, v6, v7, v8, v9, v10, v10, v12, 305418240, 4294963200, 2147487816, 2147483728, 0, 2147483736, 0, 0, 0, 0, 0, 0, 0, 0, 0, 0, 0, 0, 2147483648] (by kernel_rfl)
 obtain ⟨X22, h22, e22⟩ := (h21.alu ⟨19, 19, 31, 0, -7, 4⟩ (by kernel_rfl) (by decide) 2147483641 (by kernel_rfl)).cast [0, A, B, v3, v4, v5, v6, v7, v8, v9, v10, v10, v12, 305418240, 4294963200, 2147487816, 2147483728, 0, 2147483736, 2147483641, 0, 0, 0, 0, 0, 0, 0, 0, 0, 0, 0, 2147483648] (by kernel_rfl)
 rw [e1, e2, e3, e4, e5, e6, e7, e8, e9, e10, e11, e12, e13, e14, e15, e16, e17, e18, e19, e20, e21, e22]
 exact ⟨X22, rfl, h22.q.x⟩
theorem ldv_w (v : Nat) : ldvD 13 v = v := rfl
theorem ldv_bu (v : Nat) : ldvD 14 v = v := rfl
theorem ldv_hu (v : Nat) : ldvD 15 v = v := rfl
theorem ldv_b (v : Nat) : ldvD 11 v = wordN (xextD v 1) := rfl
theorem ldv_h (v : Nat) : ldvD 12 v = wordN (xextD v 2) := rfl
theorem nd13 : nD 13 = 4 := rfl
theorem nd14 : nD 14 = 1 := rfl
theorem nd15 : nD 15 = 2 := rfl
theorem nd11 : nD 11 = 1 := rfl
theorem nd12 : nD 12 = 2 := rfl
theorem lds_run (a b : Int) (X : XS) (h : Qu X (bltX ldsC a b) (List.replicate 32 0) 0) : ∃ Y, runG 22 0 X = (22, Y) /\ Y.x = [0, wordN a, wordN b, wordN (xextD (wordN a % 256 : Nat) 1), wordN a % 256, wordN (xextD (wordN a % 65536 : Nat) 2), wordN a % 65536, wordN a / 256 + wordN b % 256 * 16777216, wordN (xextD (wordN a / 16777216 + wordN b % 256 * 256 : Nat) 2), wordN b % 256 * 256, wordN b % 65536 * 65536, wordN b % 65536 * 65536, wordN b / 65536, 305418240, 4294963200, 2147487816, 2147483728, 0, 2147483736, 2147483641, 0, 0, 0, 0, 0, 0, 0, 0, 0, 0, 0, 2147483648] := by
 have h0 := Rn.of h
 obtain ⟨b0, b1, b2, b3, b4, b5, b6, b7⟩ := blt_byte ldsC a b
 have bz := lds_zero a b
 have hlen := blt_len ldsC a b
 have hA : wordN a < 4294967296 := by unfold wordN; omega
 have hB : wordN b < 4294967296 := by unfold wordN; omega
 generalize wordN a = A at *
 generalize wordN b = B at *
 generalize bltX ldsC a b = R at *
 obtain ⟨S, hS⟩ := zn1 (stN (stN (stN R 1041 1 B) 1046 2 B) 1050 4 B)
 have sl : S.length = 4096 := by rw [hS, stN_length, stN_length, stN_length, hlen]
 have sb : ∀ j, bt S j = if 1050 <= j /\ j < 1054 then B / 256 ^ (j - 1050) % 256 else if 1046 <= j /\ j < 1048 then B / 256 ^ (j - 1046) % 256 else if 1041 <= j /\ j < 1042 then B / 256 ^ (j - 1041) % 256 else bt R j := fun j => by
  rw [hS, st_bt _ _ _ _ _ (by rw [stN_length, stN_length]; omega), st_bt _ _ _ _ _ (by rw [stN_length]; omega), st_bt _ _ _ _ _ (by omega)]
 refine lds_road X R S h0 A B _ _ _ _ _ _ _ _ _ hS ?_ ?_ ?_ ?_ ?_ ?_ ?_ ?_ ?_ ?_ ?_ ?_
 . rw [ldv_w, nd13, ld4_bt _ _ (by omega), b0, b1, b2, b3]; omega
 . rw [ldv_w, nd13, ld4_bt _ _ (by omega), b4, b5, b6, b7]; omega
 . rw [ldv_b, nd11, ld1_bt _ _ (by omega), b0]
 . rw [ldv_bu, nd14, ld1_bt _ _ (by omega), b0]
 . rw [ldv_h, nd12, ld2_bt _ _ (by omega), b0, b1, show A % 256 + 256 * (A / 256 % 256) = A % 65536 by omega]
 . rw [ldv_hu, nd15, ld2_bt _ _ (by omega), b0, b1]; omega
 . rw [ldv_w, nd13, ld4_bt _ _ (by omega), b1, b2, b3, b4]; omega
 . rw [ldv_h, nd12, ld2_bt _ _ (by omega), b3, b4, show A / 16777216 % 256 + 256 * (B % 256) = A / 16777216 + B % 256 * 256 by omega]
 . exact zq383
 . exact zq383
 . exact zq383
 . exact zq383
theorem xor7 (m : Nat) (h : m < 256) : m ^^^ 128 = if 128 <= m then m - 128 else m + 128 := by
 have h1 := xor_and m m 128 (Nat.le_refl _)
 have h2 := or_and m m 128 (Nat.le_refl _)
 have h3 : m ||| 128 = if bitN m 7 = true then m else m + 128 := or_bit m 7
 unfold bitN at h3
 by_cases e : 128 <= m
 . rw [if_pos (by simp; omega)] at h3
   rw [if_pos e]; omega
 . rw [if_neg (by simp; omega)] at h3
   rw [if_neg e]; omega
theorem xor15 (m : Nat) (h : m < 65536) : m ^^^ 32768 = if 32768 <= m then m - 32768 else m + 32768 := by
 have h1 := xor_and m m 32768 (Nat.le_refl _)
 have h2 := or_and m m 32768 (Nat.le_refl _)
 have h3 : m ||| 32768 = if bitN m 15 = true then m else m + 32768 := or_bit m 15
 unfold bitN at h3
 by_cases e : 32768 <= m
 . rw [if_pos (by simp; omega)] at h3
   rw [if_pos e]; omega
 . rw [if_neg (by simp; omega)] at h3
   rw [if_neg e]; omega
theorem mask_any (a : Int) : bits .and .i64 a 4294967295 = (wordN a : Int) := by
 have := and_any a 4294967295 (by decide)
 rw [show ((4294967295 : Nat) : Int) = 4294967295 from rfl] at this
 rw [this, show (4294967295 : Nat) = 2 ^ 32 - 1 from rfl, Nat.and_two_pow_sub_one_eq_mod]
 unfold wordN; omega
theorem and_low (A : Nat) (hA : A < 4294967296) (k m : Nat) (hk : k <= 32) (hm : m = 2 ^ k - 1) : bits .and .i64 (A : Int) (m : Int) = ((A % 2 ^ k : Nat) : Int) := by
 have : 2 ^ k <= 2 ^ 32 := Nat.pow_le_pow_right (by decide) hk
 rw [b_and A m (by omega) (by omega), hm, Nat.and_two_pow_sub_one_eq_mod]
theorem ext8 (m : Nat) (h : m < 256) : bits .and .i64 (wrap64 (bits .xor .i64 (m : Int) 128 - 128)) 4294967295 = ((wordN (xextD m 1) : Nat) : Int) := by
 have e := b_xor m 128 (by omega) (by decide)
 rw [show ((128 : Nat) : Int) = 128 from rfl] at e
 rw [e, xor7 m h, mask_any]
 congr 1
 rw [show xextD (m : Int) 1 = if 128 <= (m : Int) then (m : Int) - 256 else m from rfl]
 unfold wordN wrap64
 split <;> split <;> omega
theorem ext16 (m : Nat) (h : m < 65536) : bits .and .i64 (wrap64 (bits .xor .i64 (m : Int) 32768 - 32768)) 4294967295 = ((wordN (xextD m 2) : Nat) : Int) := by
 have e := b_xor m 32768 (by omega) (by decide)
 rw [show ((32768 : Nat) : Int) = 32768 from rfl] at e
 rw [e, xor15 m h, mask_any]
 congr 1
 rw [show xextD (m : Int) 2 = if 32768 <= (m : Int) then (m : Int) - 65536 else m from rfl]
 unfold wordN wrap64
 split <;> split <;> omega
theorem or_hi (a u k : Nat) (h : a < 2 ^ k) (hu : u * 2 ^ k + a < 9223372036854775808) : bits .or .i64 (a : Int) ((u * 2 ^ k : Nat) : Int) = ((a + u * 2 ^ k : Nat) : Int) := by
 rw [b_or a _ (by omega) (by omega), Nat.or_comm, Nat.mul_comm u, <- Nat.two_pow_add_eq_or_of_lt h, Nat.add_comm]
set_option maxRecDepth 100000 in
theorem k_loadsS (a b : Int) (w : World) : CK 47 #[.int .i64 a, .int .i64 b] (.bool true) w := by
 have HA := mask_any a
 have HB := mask_any b
 go_enter func47, ntmps47
 go_wp2_with fail
 refine (k_builtS ldsC (by decide) _ (by kernel_rfl) a b w).mono ?_
 rintro o w1 ⟨⟨mb, rb, X, rfl, hm⟩, hkp⟩
 obtain ⟨Y, r1, r2⟩ := lds_run a b X hm.qu
 have RN := hide1 (x_Run mb rb X hm.inv 22 (by decide) w1 (hide1 hm.xat))
 simp only [r1] at RN
 have l1 := hm.l1
 have l2 := hm.l2
 have K1 := hide1 hkp
 clear hm hkp r1
 have hA : wordN a < 4294967296 := by unfold wordN; omega
 have hB : wordN b < 4294967296 := by unfold wordN; omega
 generalize wordN a = A at *
 generalize wordN b = B at *
 obtain ⟨v3, wv3⟩ := zn1 (wordN (xextD (A % 256 : Nat) 1) : Nat)
 rw [<- wv3] at r2
 obtain ⟨v5, wv5⟩ := zn1 (wordN (xextD (A % 65536 : Nat) 2) : Nat)
 rw [<- wv5] at r2
 obtain ⟨v8, wv8⟩ := zn1 (wordN (xextD (A / 16777216 + B % 256 * 256 : Nat) 2) : Nat)
 rw [<- wv8] at r2
 obtain ⟨v7, wv7⟩ := zn1 (A / 256 + B % 256 * 16777216 : Nat)
 rw [<- wv7] at r2
 obtain ⟨v9, wv9⟩ := zn1 (B % 256 * 256 : Nat)
 rw [<- wv9] at r2
 obtain ⟨v10, wv10⟩ := zn1 (B % 65536 * 65536 : Nat)
 rw [<- wv10] at r2
 obtain ⟨v12, wv12⟩ := zn1 (B / 65536 : Nat)
 rw [<- wv12] at r2
 obtain ⟨v4, wv4⟩ := zn1 (A % 256 : Nat)
 rw [<- wv4] at r2
 obtain ⟨v6, wv6⟩ := zn1 (A % 65536 : Nat)
 rw [<- wv6] at r2
 obtain ⟨g, hg⟩ := zn1 (fun i => (regU Y.x i).1 : Int -> Int)
 have RG : Hid (∀ i W, XAt W mb rb Y -> CS 91 #[.pointer (some ⟨mb, 0, none⟩), .int .i64 i] (.int .i64 (g i)) W) := hide1 (fun i W hW => by rw [hg]; exact k_regS mb rb Y i W hW)
 have gv : ∀ i : Nat, i < 32 -> g i = ((Y.x.getD i 0 : Nat) : Int) := fun i hi => by rw [hg]; show (regU Y.x (i : Int)).1 = _; unfold regU; rw [if_pos (by omega)]; rfl
 have g3 := gv 3 (by decide)
 have g4 := gv 4 (by decide)
 have g5 := gv 5 (by decide)
 have g6 := gv 6 (by decide)
 have g7 := gv 7 (by decide)
 have g8 := gv 8 (by decide)
 have g9 := gv 9 (by decide)
 have g10 := gv 10 (by decide)
 have g11 := gv 11 (by decide)
 have g12 := gv 12 (by decide)
 have g13 := gv 13 (by decide)
 have g14 := gv 14 (by decide)
 have g15 := gv 15 (by decide)
 have g16 := gv 16 (by decide)
 have g17 := gv 17 (by decide)
 have g18 := gv 18 (by decide)
 have g19 := gv 19 (by decide)
 rw [r2] at g3 g4 g5 g6 g7 g8 g9 g10 g11 g12 g13 g14 g15 g16 g17 g18 g19
 replace g3 : g 3 = (v3 : Nat) := g3
 replace g4 : g 4 = (v4 : Nat) := g4
 replace g5 : g 5 = (v5 : Nat) := g5
 replace g6 : g 6 = (v6 : Nat) := g6
 replace g7 : g 7 = (v7 : Nat) := g7
 replace g8 : g 8 = (v8 : Nat) := g8
 replace g9 : g 9 = (v9 : Nat) := g9
 replace g10 : g 10 = (v10 : Nat) := g10
 replace g11 : g 11 = (v10 : Nat) := g11
 replace g12 : g 12 = (v12 : Nat) := g12
 replace g13 : g 13 = 305418240 := g13
 replace g14 : g 14 = 4294963200 := g14
 replace g15 : g 15 = 2147487816 := g15
 replace g16 : g 16 = 2147483728 := g16
 replace g17 : g 17 = 0 := g17
 replace g18 : g 18 = 2147483736 := g18
 replace g19 : g 19 = 2147483641 := g19
 have e4 : bits .and .i64 (A : Int) 255 = (v4 : Int) := by rw [wv4]; exact and_low A hA 8 255 (by decide) rfl
 have e6 : bits .and .i64 (A : Int) 65535 = (v6 : Int) := by rw [wv6]; exact and_low A hA 16 65535 (by decide) rfl
 obtain ⟨u, wu⟩ := zn1 (B % 256 : Nat)
 obtain ⟨t, wt⟩ := zn1 (B % 65536 : Nat)
 have eb : bits .and .i64 (B : Int) 255 = (u : Int) := by rw [wu]; exact and_low B hB 8 255 (by decide) rfl
 have ec : bits .and .i64 (B : Int) 65535 = (t : Int) := by rw [wt]; exact and_low B hB 16 65535 (by decide) rfl
 have e3 : bits .and .i64 (wrap64 (bits .xor .i64 (v4 : Int) 128 - 128)) 4294967295 = (v3 : Int) := by rw [wv3, <- wv4]; exact ext8 v4 (by omega)
 have e5 : bits .and .i64 (wrap64 (bits .xor .i64 (v6 : Int) 32768 - 32768)) 4294967295 = (v5 : Int) := by rw [wv5, <- wv6]; exact ext16 v6 (by omega)
 obtain ⟨a8, wa8⟩ := zn1 (A / 256 : Nat)
 obtain ⟨a24, wa24⟩ := zn1 (A / 16777216 : Nat)
 obtain ⟨u24, wu24⟩ := zn1 (u * 16777216 : Nat)
 obtain ⟨hh, wh⟩ := zn1 (a24 + v9 : Nat)
 have f1 : wrap64 ((u : Int) * 16777216) = (u24 : Int) := by unfold wrap64; omega
 have f2 : wrap64 ((u : Int) * 256) = (v9 : Int) := by unfold wrap64; omega
 have f3 : wrap64 ((t : Int) * 65536) = (v10 : Int) := by unfold wrap64; omega
 have f4 : (A : Int) / 256 = (a8 : Int) := by omega
 have f5 : (A : Int) / 16777216 = (a24 : Int) := by omega
 have f6 : (B : Int) / 65536 = (v12 : Int) := by omega
 have e7 : bits .or .i64 (a8 : Int) (u24 : Int) = (v7 : Int) := by
  have := or_hi a8 u 24 (by omega) (by omega)
  rw [show (u * 2 ^ 24 : Nat) = u24 by omega] at this
  rw [this]; omega
 have e8' : bits .or .i64 (a24 : Int) (v9 : Int) = (hh : Int) := by
  have := or_hi a24 u 8 (by omega) (by omega)
  rw [show (u * 2 ^ 8 : Nat) = v9 by omega] at this
  rw [this]; omega
 have e8 : bits .and .i64 (wrap64 (bits .xor .i64 (hh : Int) 32768 - 32768)) 4294967295 = (v8 : Int) := by rw [wv8, show A / 16777216 + B % 256 * 256 = hh by omega]; exact ext16 hh (by omega)
 clear wv3 wv4 wv5 wv6 wv7 wv8 wv9 wv10 wv12 wu wt wa8 wa24 wu24 wh gv hg r2 hA hB
 go_wp2_with fail
 refine RN.out.mono ?_
 rintro o w2 ⟨rfl, hx, hkq⟩
 have K2 := hide1 (kept_new K1.out hkq l1 l2)
 have M2 := hide1 hx
 clear hx hkq K1 RN
 go_wp2_with (go_at_call 91; refine (RG.out _ _ M2.out).mono ?_; rintro o wq ⟨rfl, hwq⟩; rw [hwq]; clear hwq wq)
 go_ret
 exact ⟨rfl, K2.out⟩
end
end Go.Proofs.YtmlgonbhoknoiabGreatDoor
