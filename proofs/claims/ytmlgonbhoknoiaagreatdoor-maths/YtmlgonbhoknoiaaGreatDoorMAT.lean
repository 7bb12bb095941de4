import Derived.Test.YtmlgonbhoknoiaaGreatDoorMAS
set_option maxHeartbeats 8000000
set_option linter.all false
namespace Go.Proofs.YtmlgonbhoknoiaaGreatDoor
open Go.RowKit Go.Proofs.Tryz
section
attribute [local go_sem ↓] Go.wp_at_zero Go.wp_at_succ
set_option maxRecDepth 100000 in
theorem k_loads (a b : Int) (w : World) : Calls prog 53 #[.int .i64 a, .int .i64 b] w fun o w' => BoolR o /\ Kept [] w w' := by
 go_enter func53, ntmps53
 go_wp2_with fail
 refine (k_built _ _ _ w).mono ?_
 rintro o w1 ⟨rfl | ⟨mb, rb, l1, l2, rfl, hm⟩, hk⟩
 . exact zq381
 have M1 := hide1 hm
 have K1 := hide1 hk
 clear hm hk
 go_wp2_with fail
 refine (m_Run mb rb _ 22 w1 M1.out).mono ?_
 exact zq380
set_option maxRecDepth 100000 in
theorem k_self (k : Int) (w : World) : Calls prog 50 #[.int .i64 k] w fun o w' => BoolR o /\ Kept [] w w' := by
 go_enter func50, ntmps50
 go_wp2_with fail
 refine (k_built _ _ _ w).mono ?_
 rintro o w1 ⟨rfl | ⟨mb, rb, l1, l2, rfl, hm⟩, hk⟩
 . exact zq381
 have M1 := hide1 hm
 have K1 := hide1 hk
 clear hm hk
 go_wp2_with fail
 refine (m_Run mb rb _ 12 w1 M1.out).mono ?_
 exact zq380
set_option maxRecDepth 100000 in
theorem k_mapper (s : ByteArray) (va v root low : Int) (w : World) : Calls prog 106 #[.string s, .int .i64 va, .int .i64 v, .int .i64 root, .int .i64 low] w fun e w' => MadeR w w' 16384 e := by
 have N := hide1 (m_New 16384 (by decide) w)
 go_enter func106, ntmps106
 go_wp2_with fail
 refine N.out.mono ?_
 rintro o w1 ⟨rfl, hm1, hk1⟩
 have M1 := hide1 hm1
 have K1 := hide1 hk1
 clear N hm1 hk1
 go_wp2_with fail
 refine (a_Asm' s _).mono ?_
 rintro o w2 ⟨⟨X, er, n, rfl⟩, hk2⟩
 have M2 := hide1 (M1.out.kept hk2)
 have K2 := hide1 (K1.out.trans hk2)
 clear hk2 M1 K1
 by_cases her : er = 0
 . have q : (er != 0) = false := by simp [her]
   have q' : (er == 0) = true := by simp [her]
   clear her
   go_wp2_with fail
   refine (m_Load _ _ _ _ _ w2 M2.out).mono ?_
   rintro o w3 ⟨⟨e2, rfl⟩, hm, hk⟩
   have M3 := hide1 hm
   have K3 := hide1 (kept_new K2.out hk (by omega) (by omega))
   clear hm hk M2 K2
   go_wp2_with fail
   refine (u_Le4' _ _).mono ?_
   rintro o w4 ⟨⟨A0, hA0, rfl⟩, hk⟩
   have M4 := hide1 (M3.out.kept hk)
   have K4 := hide1 (K3.out.trans hk)
   clear hk M3 K3
   go_wp2_with fail
   refine (m_Load _ _ _ _ _ w4 M4.out).mono ?_
   rintro o w5 ⟨⟨e4, rfl⟩, hm, hk⟩
   have M5 := hide1 hm
   have K5 := hide1 (kept_new K4.out hk (by omega) (by omega))
   clear hm hk M4 K4
   go_wp2_with fail
   refine (u_Le4' _ _).mono ?_
   rintro o w6 ⟨⟨A, hA, rfl⟩, hk⟩
   have M6 := hide1 (M5.out.kept hk)
   have K6 := hide1 (K5.out.trans hk)
   clear hk M5 K5
   go_wp2_with fail
   refine (u_Le4' _ _).mono ?_
   rintro o w7 ⟨⟨B, hB, rfl⟩, hk⟩
   have M7 := hide1 (M6.out.kept hk)
   have K7 := hide1 (K6.out.trans hk)
   clear hk M6 K6
   go_wp2_with fail
   refine (u_Le4' _ _).mono ?_
   rintro o w8 ⟨⟨C, hC, rfl⟩, hk⟩
   have M8 := hide1 (M7.out.kept hk)
   have K8 := hide1 (K7.out.trans hk)
   clear hk M7 K7
   go_wp2_with fail
   refine (u_Le4' _ _).mono ?_
   rintro o w9 ⟨⟨D, hD, rfl⟩, hk⟩
   have M9 := hide1 (M8.out.kept hk)
   have K9 := hide1 (K8.out.trans hk)
   clear hk M8 K8
   obtain ⟨c1, g1, z1, hc1⟩ := add_in A B (by omega)
   obtain ⟨c2, g2, z2, hc2⟩ := add_in c1 C (by omega)
   obtain ⟨c3, g3, z3, hc3⟩ := add_in c2 D (by omega)
   clear g1 g2 g3 z1 z2 z3 hA hB hC hD hA0
   go_wp2_with fail
   refine (m_Load _ _ _ _ _ w9 M9.out).mono ?_
   rintro o w10 ⟨⟨e9, rfl⟩, hm, hk⟩
   have M10 := hide1 hm
   have K10 := hide1 (kept_new K9.out hk (by omega) (by omega))
   clear hm hk M9 K9
   go_wp2_with fail
   refine (u_Le4' _ _).mono ?_
   rintro o w11 ⟨⟨F, hF, rfl⟩, hk⟩
   have M11 := hide1 (M10.out.kept hk)
   have K11 := hide1 (K10.out.trans hk)
   clear hk M10 K10
   go_wp2_with fail
   refine (m_Load _ _ _ _ _ w11 M11.out).mono ?_
   rintro o w12 ⟨⟨e11, rfl⟩, hm, hk⟩
   have M12 := hide1 hm
   have K12 := hide1 (kept_new K11.out hk (by omega) (by omega))
   clear hm hk M11 K11
   go_wp2_with fail
   refine (u_Le4' _ _).mono ?_
   rintro o w13 ⟨⟨G, hG, rfl⟩, hk⟩
   have M13 := hide1 (M12.out.kept hk)
   have K13 := hide1 (K12.out.trans hk)
   clear hk M12 K12
   go_wp2_with fail
   refine (m_Load _ _ _ _ _ w13 M13.out).mono ?_
   rintro o w14 ⟨⟨e13, rfl⟩, hm, hk⟩
   have M14 := hide1 hm
   have K14 := hide1 (kept_new K13.out hk (by omega) (by omega))
   clear hm hk M13 K13
   go_wp2_with fail
   go_ret
   exact ⟨.inr ⟨_, _, by omega, by omega, rfl, M14.out⟩, K14.out⟩
 . exact zq361
theorem and_any (a : Int) (c : Nat) (hc : c < 9223372036854775808) : bits .and .i64 a (c : Int) = (((a % 18446744073709551616).toNat &&& c : Nat) : Int) := by
 have hx : bits .and .i64 a (c : Int) = IntKind.i64.wrap (((BitVec.ofInt 64 a &&& BitVec.ofInt 64 (c : Int)).toNat : Nat) : Int) := rfl
 have h1 : (BitVec.ofInt 64 a).toNat = (a % 18446744073709551616).toNat := by simp [BitVec.toNat_ofInt]
 rw [hx, BitVec.toNat_and, h1, bv_nat c hc]
 exact wrap_nat63 _ (Nat.lt_of_le_of_lt Nat.and_le_right hc)
theorem va_any (a : Int) : ∃ n : Nat, n <= 4294967292 /\ n % 4 = 0 /\ bits .and .i64 a 4294967292 = (n : Int) := by
 refine ⟨(a % 18446744073709551616).toNat &&& 4294967292, Nat.and_le_right, ?_, and_any a 4294967292 (by decide)⟩
 have h := bit_andN (a % 18446744073709551616).toNat 4294967292 0
 have h2 := bit_andN (a % 18446744073709551616).toNat 4294967292 1
 simp at h h2
 omega
theorem v_any (a : Int) : ∃ n : Nat, n <= 4294967295 /\ bits .and .i64 a 4294967295 = (n : Int) :=
 ⟨(a % 18446744073709551616).toNat &&& 4294967295, Nat.and_le_right, and_any a 4294967295 (by decide)⟩
theorem va_big (n : Nat) (h : n <= 4294967292) (h4 : n % 4 = 0) : ∃ m : Nat, m <= 4294967292 /\ m % 4 = 0 /\ bits .or .i64 (bits .or .i64 (bits .andNot .i64 (n : Int) 4194303) 12288) (bits .and .i64 (n : Int) 4095) = (m : Int) := by
 have e1 : bits .andNot .i64 (n : Int) 4194303 = ((wout n 4194303 : Nat) : Int) := b_andn n 4194303 (by omega) (by decide)
 have hw := wout_le n 4194303
 have e2 : bits .or .i64 ((wout n 4194303 : Nat) : Int) 12288 = ((wout n 4194303 ||| 12288 : Nat) : Int) := b_or _ 12288 (by omega) (by decide)
 have e3 : bits .and .i64 (n : Int) 4095 = ((n &&& 4095 : Nat) : Int) := b_and n 4095 (by omega) (by decide)
 have l2 : wout n 4194303 ||| 12288 < 4294967296 := nat_or_lt _ _ 32 (by omega) (by decide)
 have l3 : n &&& 4095 <= 4095 := Nat.and_le_right
 have e4 := b_or (wout n 4194303 ||| 12288) (n &&& 4095) (by omega) (by omega)
 have l4 : (wout n 4194303 ||| 12288) ||| (n &&& 4095) < 4294967296 := nat_or_lt _ _ 32 l2 (by omega)
 have m4 : ((wout n 4194303 ||| 12288) ||| (n &&& 4095)) % 4 = 0 := by
  have b0 := bit_orN (wout n 4194303 ||| 12288) (n &&& 4095) 0
  have b1 := bit_orN (wout n 4194303 ||| 12288) (n &&& 4095) 1
  have c0 := bit_andN n 4095 0
  have c1 := bit_andN n 4095 1
  have d0 := bit_orN (wout n 4194303) 12288 0
  have d1 := bit_orN (wout n 4194303) 12288 1
  have f0 := bit_woutN n 4194303 0
  have f1 := bit_woutN n 4194303 1
  simp at b0 b1 c0 c1 d0 d1 f0 f1
  have g0 : n % 2 = 0 := by omega
  have g1 : n / 2 % 2 = 0 := by omega
  rw [g1] at c1
  simp [g0, d0, f0] at b0
  simp [c1, d1, f1] at b1
  omega
 exact ⟨_, by omega, m4, by rw [e1, e2, e3, e4]⟩
theorem k_regS (mb rb : Nat) (X : XS) (i : Int) (w : World) (hw : XAt w mb rb X) : CS 101 #[.pointer (some ⟨mb, 0, none⟩), .int .i64 i] (.int .i64 (regU X.x i).1) w := by
 have R := hide1 (ux_Reg mb rb X i w hw)
 generalize (regU X.x i).1 = a at R |-
 generalize (regU X.x i).2 = b at R
 go_enter func101, ntmps101
 go_wp2_with fail
 refine R.out.mono ?_
 rintro o w1 ⟨rfl, hw1⟩
 rw [hw1]
 exact zq204
end
def mthC : List UInt8 := [151, 15, 0, 0, 131, 160, 15, 64, 3, 161, 79, 64, 179, 193, 32, 2, 51, 226, 32, 2, 179, 130, 33, 2, 179, 130, 66, 0, 51, 211, 32, 2, 179, 243, 32, 2, 51, 4, 35, 2, 51, 4, 116, 0, 179, 132, 32, 2, 51, 181, 32, 2, 179, 149, 32, 2, 51, 166, 32, 2, 179, 246, 32, 0, 51, 231, 32, 0, 179, 199, 32, 0, 51, 136, 32, 0, 179, 8, 40, 64, 51, 169, 32, 0, 179, 185, 32, 0, 51, 154, 32, 0, 179, 218, 32, 0, 51, 219, 32, 64]
set_option maxRecDepth 100000 in
theorem mth_road (X : XS) (R : List UInt8) (h0 : Rn mthC X R (List.replicate 32 0) 0) (A B v3 v4 m5 v5 v6 v7 m8 v8 v9 v10 v11 v12 v13 v14 v15 v16 v17 v18 v19 v20 v21 v22 : Nat) (l1 : ldvD 13 (ldN ((R.drop 1024).take (nD 13))) = A) (l2 : ldvD 13 (ldN ((R.drop 1028).take (nD 13))) = B) (a0 : alu 46 A B = v3) (a1 : alu 48 A B = v4) (a2 : alu 42 v3 B = m5) (a3 : alu 28 m5 v4 = v5) (a4 : alu 47 A B = v6) (a5 : alu 49 A B = v7) (a6 : alu 42 v6 B = m8) (a7 : alu 28 m8 v7 = v8) (a8 : alu 42 A B = v9) (a9 : alu 45 A B = v10) (a10 : alu 43 A B = v11) (a11 : alu 44 A B = v12) (a12 : alu 37 A B = v13) (a13 : alu 36 A B = v14) (a14 : alu 33 A B = v15) (a15 : alu 28 A B = v16) (a16 : alu 29 v16 B = v17) (a17 : alu 31 A B = v18) (a18 : alu 32 A B = v19) (a19 : alu 30 A B = v20) (a20 : alu 34 A B = v21) (a21 : alu 35 A B = v22) : ∃ Y, runG 25 0 X = (25, Y) /\ Y.x = [0, A, B, v3, v4, v5, v6, v7, v8, v9, v10, v11, v12, v13, v14, v15, v16, v17, v18, v19, v20, v21, v22, 0, 0, 0, 0, 0, 0, 0, 0, 2147483648] := by
 obtain ⟨X1, h1, -, e1⟩ := (h0.alu ⟨2, 31, 0, 0, 0, 4⟩ (by kernel_rfl) (by decide) 2147483648 (by kernel_rfl)).cast [0, 0, 0, 0, 0, 0, 0, 0, 0, 0, 0, 0, 0, 0, 0, 0, 0, 0, 0, 0, 0, 0, 0, 0, 0, 0, 0, 0, 0, 0, 0, 2147483648] (by kernel_rfl)
 obtain ⟨X2, h2, -, e2⟩ := (h1.load ⟨13, 1, 31, 0, 1024, 4⟩ (by kernel_rfl) 1024 (by decide) (by kernel_rfl) A l1).cast [0, A, 0, 0, 0, 0, 0, 0, 0, 0, 0, 0, 0, 0, 0, 0, 0, 0, 0, 0, 0, 0, 0, 0, 0, 0, 0, 0, 0, 0, 0, 2147483648] (by kernel_rfl)
 obtain ⟨X3, h3, -, e3⟩ := (h2.load ⟨13, 2, 31, 0, 1028, 4⟩ (by kernel_rfl) 1028 (by decide) (by kernel_rfl) B l2).cast [0, A, B, 0, 0, 0, 0, 0, 0, 0, 0, 0, 0, 0, 0, 0, 0, 0, 0, 0, 0, 0, 0, 0, 0, 0, 0, 0, 0, 0, 0, 2147483648] (by kernel_rfl)
 obtain ⟨X4, h4, -, e4⟩ := (h3.alu ⟨46, 3, 1, 2, 0, 4⟩ (by kernel_rfl) (by decide) v3 (a0)).cast [0, A, B, v3, 0, 0, 0, 0, 0, 0, 0, 0, 0, 0, 0, 0, 0, 0, 0, 0, 0, 0, 0, 0, 0, 0, 0, 0, 0, 0, 0, 2147483648] (by kernel_rfl)
 obtain ⟨X5, h5, -, e5⟩ := (h4.alu ⟨48, 4, 1, 2, 0, 4⟩ (by kernel_rfl) (by decide) v4 (a1)).cast [0, A, B, v3, v4, 0, 0, 0, 0, 0, 0, 0, 0, 0, 0, 0, 0, 0, 0, 0, 0, 0, 0, 0, 0, 0, 0, 0, 0, 0, 0, 2147483648] (by kernel_rfl)
 obtain ⟨X6, h6, -, e6⟩ := (h5.alu ⟨42, 5, 3, 2, 0, 4⟩ (by kernel_rfl) (by decide) m5 (a2)).cast [0, A, B, v3, v4, m5, 0, 0, 0, 0, 0, 0, 0, 0, 0, 0, 0, 0, 0, 0, 0, 0, 0, 0, 0, 0, 0, 0, 0, 0, 0, 2147483648] (by kernel_rfl)
 obtain ⟨X7, h7, -, e7⟩ := (h6.alu ⟨28, 5, 5, 4, 0, 4⟩ (by kernel_rfl) (by decide) v5 (a3)).cast [0, A, B, v3, v4, v5, 0, 0, 0, 0, 0, 0, 0, 0, 0, 0, 0, 0, 0, 0, 0, 0, 0, 0, 0, 0, 0, 0, 0, 0, 0, 2147483648] (by kernel_rfl)
 obtain ⟨X8, h8, -, e8⟩ := (h7.alu ⟨47, 6, 1, 2, 0, 4⟩ (by kernel_rfl) (by decide) v6 (a4)).cast [0, A, B, v3, v4, v5, v6, 0, 0, 0, 0, 0, 0, 0, 0, 0, 0, 0, 0, 0, 0, 0, 0, 0, 0, 0, 0, 0, 0, 0, 0, 2147483648] (by kernel_rfl)
 obtain ⟨X9, h9, -, e9⟩ := (h8.alu ⟨49, 7, 1, 2, 0, 4⟩ (by kernel_rfl) (by decide) v7 (a5)).cast [0, A, B, v3, v4, v5, v6, v7, 0, 0, 0, 0, 0, 0, 0, 0, 0, 0, 0, 0, 0, 0, 0, 0, 0, 0, 0, 0, 0, 0, 0, 2147483648] (by kernel_rfl)
 obtain ⟨X10, h10, -, e10⟩ := (h9.alu ⟨42, 8, 6, 2, 0, 4⟩ (by kernel_rfl) (by decide) m8 (a6)).cast [0, A, B, v3, v4, v5, v6, v7, m8, 0, 0, 0, 0, 0, 0, 0, 0, 0, 0, 0, 0, 0, 0, 0, 0, 0, 0, 0, 0, 0, 0, 2147483648] (by kernel_rfl)
 obtain ⟨X11, h11, -, e11⟩ := (h10.alu ⟨28, 8, 8, 7, 0, 4⟩ (by kernel_rfl) (by decide) v8 (a7)).cast [0, A, B, v3, v4, v5, v6, v7, v8, 0, 0, 0, 0, 0, 0, 0, 0, 0, 0, 0, 0, 0, 0, 0, 0, 0, 0, 0, 0, 0, 0, 2147483648] (by kernel_rfl)
 obtain ⟨X12, h12, -, e12⟩ := (h11.alu ⟨42, 9, 1, 2, 0, 4⟩ (by kernel_rfl) (by decide) v9 (a8)).cast [0, A, B, v3, v4, v5, v6, v7, v8, v9, 0, 0, 0, 0, 0, 0, 0, 0, 0, 0, 0, 0, 0, 0, 0, 0, 0, 0, 0, 0, 0, 2147483648] (by kernel_rfl)
 obtain ⟨X13, h13, -, e13⟩ := (h12.alu ⟨45, 10, 1, 2, 0, 4⟩ (by kernel_rfl) (by decide) v10 (a9)).cast [0, A, B, v3, v4, v5, v6, v7, v8, v9, v10, 0, 0, 0, 0, 0, 0, 0, 0, 0, 0, 0, 0, 0, 0, 0, 0, 0, 0, 0, 0, 2147483648] (by kernel_rfl)
 obtain ⟨X14, h14, -, e14⟩ := (h13.alu ⟨43, 11, 1, 2, 0, 4⟩ (by kernel_rfl) (by decide) v11 (a10)).cast [0, A, B, v3, v4, v5, v6, v7, v8, v9, v10, v11, 0, 0, 0, 0, 0, 0, 0, 0, 0, 0, 0, 0, 0, 0, 0, 0, 0, 0, 0, 2147483648] (by kernel_rfl)
 obtain ⟨X15, h15, -, e15⟩ := (h14.alu ⟨44, 12, 1, 2, 0, 4⟩ (by kernel_rfl) (by decide) v12 (a11)).cast [0, A, B, v3, v4, v5, v6, v7, v8, v9, v10, v11, v12, 0, 0, 0, 0, 0, 0, 0, 0, 0, 0, 0, 0, 0, 0, 0, 0, 0, 0, 2147483648] (by kernel_rfl)
 obtain ⟨X16, h16, -, e16⟩ := (h15.alu ⟨37, 13, 1, 2, 0, 4⟩ (by kernel_rfl) (by decide) v13 (a12)).cast [0, A, B, v3, v4, v5, v6, v7, v8, v9, v10, v11, v12, v13, 0, 0, 0, 0, 0, 0, 0, 0, 0, 0, 0, 0, 0, 0, 0, 0, 0, 2147483648] (by kernel_rfl)
 obtain ⟨X17, h17, -, e17⟩ := (h16.alu ⟨36, 14, 1, 2, 0, 4⟩ (by kernel_rfl) (by decide) v14 (a13)).cast [0, A, B, v3, v4, v5, v6, v7, v8, v9, v10, v11, v12, v13, v14, 0, 0, 0, 0, 0, 0, 0, 0, 0, 0, 0, 0, 0, 0, 0, 0, 2147483648] (by kernel_rfl)
 obtain ⟨X18, h18, -, e18⟩ := (h17.alu ⟨33, 15, 1, 2, 0, 4⟩ (by kernel_rfl) (by decide) v15 (a14)).cast [0, A, B, v3, v4, v5, v6, v7, v8, v9, v10, v11, v12, v13, v14, v15, 0, 0, 0, 0, 0, 0, 0, 0, 0, 0, 0, 0, 0, 0, 0, 2147483648] (by kernel_rfl)
 obtain ⟨X19, h19, -, e19⟩ := (h18.alu ⟨28, 16, 1, 2, 0, 4⟩ (by kernel_rfl) (by decide) v16 (a15)).cast [0, A, B, v3, v4, v5, v6, v7, v8, v9, v10, v11, v12, v13, v14, v15, v16, 0, 0, 0, 0, 0, 0, 0, 0, 0, 0, 0, 0, 0, 0, 2147483648] (by kernel_rfl)
 obtain ⟨X20, h20, -, e20⟩ := (h19.alu ⟨29, 17, 16, 2, 0, 4⟩ (by kernel_rfl) (by decide) v17 (a16)).cast [0, A, B, v3, v4, v5, v6, v7, v8, v9, v10, v11, v12, v13, v14, v15, v16, v17, 0, 0, 0, 0, 0, 0, 0, 0, 0, 0, 0, 0, 0, 2147483648] (by kernel_rfl)
 obtain ⟨X21, h21, -, e21⟩ := (h20.alu ⟨31, 18, 1, 2, 0, 4⟩ (by kernel_rfl) (by decide) v18 (a17)).cast [0, A, B, v3, v4, v5, v6, v7, v8, v9, v10, v11, v12, v13, v14, v15, v16, v17, v18, 0, 0, 0, 0, 0, 0, 0, 0, 0, 0, 0, 0, 2147483648] (by kernel_rfl)
 obtain ⟨X22, h22, -, e22⟩ := (h21.alu ⟨32, 19, 1, 2, 0, 4⟩ (by kernel_rfl) (by decide) v19 (a18)).cast [0, A, B, v3, v4, v5, v6, v7, v8, v9, v10, v11, v12, v13, v14, v15, v16, v17, v18, v19, 0, 0, 0, 0, 0, 0, 0, 0, 0, 0, 0, 2147483648] (by kernel_rfl)
 obtain ⟨X23, h23, -, e23⟩ := (h22.alu ⟨30, 20, 1, 2, 0, 4⟩ (by kernel_rfl) (by decide) v20 (a19)).cast [0, A, B, v3, v4, v5, v6, v7, v8, v9, v10, v11, v12, v13, v14, v15, v16, v17, v18, v19, v20, 0, 0, 0, 0, 0, 0, 0, 0, 0, 0, 2147483648] (by kernel_rfl)
 obtain ⟨X24, h24, -, e24⟩ := (h23.alu ⟨34, 21, 1, 2, 0, 4⟩ (by kernel_rfl) (by decide) v21 (a20)).cast [0, A, B, v3, v4, v5, v6, v7, v8, v9, v10, v11, v12, v13, v14, v15, v16, v17, v18, v19, v20, v21, 0, 0, 0, 0, 0, 0, 0, 0, 0, 2147483648] (by kernel_rfl)
 obtain ⟨X25, h25, -, e25⟩ := (h24.alu ⟨35, 22, 1, 2, 0, 4⟩ (by kernel_rfl) (by decide) v22 (a21)).cast [0, A, B, v3, v4, v5, v6, v7, v8, v9, v10, v11, v12, v13, v14, v15, v16, v17, v18, v19, v20, v21, v22, 0, 0, 0, 0, 0, 0, 0, 0, 2147483648] (by kernel_rfl)
 rw [e1, e2, e3, e4, e5, e6, e7, e8, e9, e10, e11, e12, e13, e14, e15, e16, e17, e18, e19, e20, e21, e22, e23, e24, e25]
 exact ⟨X25, rfl, h25.q.x⟩
theorem mth_run (a b : Int) (X : XS) (h : Qu X (bltX mthC a b) (List.replicate 32 0) 0) (A B : Nat) (hA : wordN a = A) (hB : wordN b = B) : ∃ Y, runG 25 0 X = (25, Y) /\ Y.x = [0, A, B, alu_div A B, alu_rem A B, alu_add (alu_mul (alu_div A B) B) (alu_rem A B), alu_divu A B, alu_remu A B, alu_add (alu_mul (alu_divu A B) B) (alu_remu A B), alu_mul A B, alu_mulhu A B, alu_mulh A B, alu_mulhsu A B, alu_and A B, alu_or A B, alu_xor A B, alu_add A B, alu_sub (alu_add A B) B, alu_slt A B, alu_sltu A B, alu_sll A B, alu_srl A B, alu_sra A B, 0, 0, 0, 0, 0, 0, 0, 0, 2147483648] :=
 mth_road X _ (Rn.of h) A B _ _ _ _ _ _ _ _ _ _ _ _ _ _ _ _ _ _ _ _ _ _ (by rw [ldv_w, nd13, blt_a, hA]) (by rw [ldv_w, nd13, blt_b, hB]) rfl rfl rfl rfl rfl rfl rfl rfl rfl rfl rfl rfl rfl rfl rfl rfl rfl rfl rfl rfl rfl rfl
section
attribute [local go_sem ↓] Go.wp_at_zero Go.wp_at_succ
theorem mask_any (a : Int) : bits .and .i64 a 4294967295 = (wordN a : Int) := by
 have := and_any a 4294967295 (by decide)
 rw [show ((4294967295 : Nat) : Int) = 4294967295 from rfl] at this
 rw [this, show (4294967295 : Nat) = 2 ^ 32 - 1 from rfl, Nat.and_two_pow_sub_one_eq_mod]
 unfold wordN; omega
theorem and_low (A : Nat) (hA : A < 4294967296) (k m : Nat) (hk : k <= 32) (hm : m = 2 ^ k - 1) : bits .and .i64 (A : Int) (m : Int) = ((A % 2 ^ k : Nat) : Int) := by
 have : 2 ^ k <= 2 ^ 32 := Nat.pow_le_pow_right (by decide) hk
 rw [b_and A m (by omega) (by omega), hm, Nat.and_two_pow_sub_one_eq_mod]
theorem or_hi (a u k : Nat) (h : a < 2 ^ k) (hu : u * 2 ^ k + a < 9223372036854775808) : bits .or .i64 (a : Int) ((u * 2 ^ k : Nat) : Int) = ((a + u * 2 ^ k : Nat) : Int) := by
 rw [b_or a _ (by omega) (by omega), Nat.or_comm, Nat.mul_comm u, <- Nat.two_pow_add_eq_or_of_lt h, Nat.add_comm]
theorem mask_nat (V : Nat) : bits .and .i64 (V : Int) 4294967295 = ((V % 4294967296 : Nat) : Int) := by
 rw [mask_any]; unfold wordN; omega
theorem mask_to (D e : Int) (hv : e = ((wordN D : Nat) : Int)) : bits .and .i64 D 4294967295 = e := by
 rw [hv]; exact mask_any D
theorem shl_nat (A P : Nat) (hA : A < 4294967296) (hP : P <= 2147483648) : wrap64 ((A : Int) * (P : Int)) = ((A * P : Nat) : Int) := by
 have := Nat.mul_le_mul (show A <= 4294967295 by omega) hP
 rw [show (A : Int) * (P : Int) = ((A * P : Nat) : Int) by simp]
 generalize A * P = V at *
 unfold wrap64; omega
theorem u64_in (k : Nat) (h : k < 32) : IntKind.u64.wrap (k : Int) = k := by rw [IntKind.wrap_u64]; omega
theorem pow_min (k P : Nat) (h : k < 32) (hP : P = 2 ^ k) : (2 : Int) ^ min (IntKind.u64.wrap (k : Int)).toNat 64 = (P : Int) := by
 rw [u64_in k h, Int.toNat_natCast, show min k 64 = k by omega, hP]; simp
theorem slt_1 (A B : Nat) : (((alu_slt A B : Nat) : Int) == 1) = decide (sgn A < sgn B) := by
 unfold alu_slt
 by_cases h : sgn A < sgn B
 . rw [if_pos h, decide_eq_true h]; rfl
 . rw [if_neg h, decide_eq_false h]; rfl
theorem sltu_1 (A B : Nat) : (((alu_sltu A B : Nat) : Int) == 1) = decide ((A : Int) < (B : Int)) := by
 unfold alu_sltu
 by_cases h : A < B
 . rw [if_pos h, decide_eq_true (by omega)]; rfl
 . rw [if_neg h, decide_eq_false (by omega)]; rfl
theorem slt_2 (A B : Nat) : decide (1 < ((alu_slt A B : Nat) : Int)) = false := by
 unfold alu_slt; split <;> rfl
theorem sltu_2 (A B : Nat) : decide (1 < ((alu_sltu A B : Nat) : Int)) = false := by
 unfold alu_sltu; split <;> rfl
def RegG (mb : Nat) (w : World) (g : Int -> Int) : Prop := ∀ i, CS 101 #[.pointer (some ⟨mb, 0, none⟩), .int .i64 i] (.int .i64 (g i)) w
theorem andn_self (n A B : Nat) (hn : n = A &&& B) (hA : A < 4294967296) (hB : B < 4294967296) : bits .andNot .i64 (n : Int) (A : Int) = 0 /\ bits .andNot .i64 (n : Int) (B : Int) = 0 := by
 have h1 : n <= A := by rw [hn]; exact Nat.and_le_left
 have h2 : n <= B := by rw [hn]; exact Nat.and_le_right
 rw [b_andn n A (by omega) (by omega), b_andn n B (by omega) (by omega)]
 unfold wout
 have e1 : n &&& A = n := by rw [hn, Nat.and_comm A B, Nat.and_assoc, Nat.and_self]
 have e2 : n &&& B = n := by rw [hn, Nat.and_assoc, Nat.and_self]
 rw [e1, e2, Nat.sub_self]; exact ⟨rfl, rfl⟩
set_option maxRecDepth 100000 in
theorem k_bitwiseS (mb : Nat) (A B : Nat) (hA : A < 4294967296) (hB : B < 4294967296) (w : World) (g : Int -> Int) (RG : Hid (RegG mb w g))
 (g13 : g 13 = (alu_and A B : Nat)) (g14 : g 14 = (alu_or A B : Nat)) (g15 : g 15 = (alu_xor A B : Nat)) (g16 : g 16 = (alu_add A B : Nat)) (g17 : g 17 = (alu_sub (alu_add A B) B : Nat)) (g18 : g 18 = (alu_slt A B : Nat)) (g19 : g 19 = (alu_sltu A B : Nat)) (g20 : g 20 = (alu_sll A B : Nat)) (g21 : g 21 = (alu_srl A B : Nat)) (g22 : g 22 = (alu_sra A B : Nat)) :
 CS 104 #[.pointer (some ⟨mb, 0, none⟩), .int .i64 A, .int .i64 B] (.bool true) w := by
 have MA := hide1 (k_minus A (by omega) (by omega) w)
 have MB := hide1 (k_minus B (by omega) (by omega) w)
 have q1 := or_and A A B (Nat.le_refl _)
 have q2 := xor_and A A B (Nat.le_refl _)
 have hn : (A &&& B) <= A := Nat.and_le_left
 obtain ⟨z1, z2⟩ := andn_self (A &&& B) A B rfl hA hB
 have hs : g 17 = (A : Int) := by rw [g17]; unfold alu_sub alu_add wordN; omega
 have h1 : wrap64 (g 13 + g 14) = (A : Int) + (B : Int) := by rw [g13, g14]; show wrap64 (((A &&& B : Nat) : Int) + ((A ||| B : Nat) : Int)) = _; clear hs g13 g14 g15 g16 g17 g18 g19 g20 g21 g22; unfold wrap64; omega
 have h2 : wrap64 ((A : Int) + (B : Int)) = (A : Int) + (B : Int) := by clear hs g13 g14 g15 g16 g17 g18 g19 g20 g21 g22; unfold wrap64; omega
 have h3 : wrap64 (g 14 - g 13) = g 15 := by rw [g13, g14, g15]; show wrap64 (((A ||| B : Nat) : Int) - ((A &&& B : Nat) : Int)) = ((A ^^^ B : Nat) : Int); clear hs g13 g14 g15 g16 g17 g18 g19 g20 g21 g22; unfold wrap64; omega
 have h4 : bits .and .i64 ((A : Int) + (B : Int)) 4294967295 = g 16 := by unfold alu_add at g16; rw [show (A : Int) + (B : Int) = ((A + B : Nat) : Int) by simp, mask_nat, g16]
 have h5 : bits .andNot .i64 (g 13) (A : Int) = 0 := by unfold alu_and at g13; rw [g13]; exact z1
 have h6 : bits .andNot .i64 (g 13) (B : Int) = 0 := by unfold alu_and at g13; rw [g13]; exact z2
 have eb : bits .and .i64 (B : Int) 31 = ((B % 32 : Nat) : Int) := and_low B hB 5 31 (by decide) rfl
 have hP : 2 ^ (B % 32) <= 2 ^ 31 := Nat.pow_le_pow_right (by decide) (Nat.le_of_lt_succ (Nat.mod_lt B (by decide)))
 have hP1 : 1 <= 2 ^ (B % 32) := Nat.one_le_two_pow
 obtain ⟨k, hk⟩ := zn1 (B % 32)
 obtain ⟨P, hPe⟩ := zn1 (2 ^ k)
 have em := pow_min k P (by rw [hk]; exact Nat.mod_lt B (by decide)) hPe
 unfold alu_sll at g20
 unfold alu_srl at g21
 unfold alu_sra at g22
 rw [<- hk] at eb hP hP1 g20 g21 g22
 rw [<- hPe] at hP hP1 g20 g21 g22
 have f20 := shl_nat A P hA hP
 have f20' : bits .and .i64 ((A * P : Nat) : Int) 4294967295 = g 20 := by rw [mask_nat, g20]
 obtain ⟨V, hV⟩ := zn1 (A * P)
 rw [<- hV] at f20 f20'
 have f21 : (A : Int) / (P : Int) = g 21 := by rw [g21]; exact (Int.natCast_ediv A P).symm
 have f22 := mask_to (sgn (A : Int) / (P : Int)) (g 22) g22
 have L1 : (g 18 == 1) = decide (sgn A < sgn B) := g18 ▸ slt_1 A B
 have L2 : (g 19 == 1) = decide ((A : Int) < (B : Int)) := g19 ▸ sltu_1 A B
 have L3 : decide (1 < g 18) = false := g18 ▸ slt_2 A B
 have L4 : decide (1 < g 19) = false := g19 ▸ sltu_2 A B
 clear q1 q2 hn z1 z2 g13 g14 g15 g16 g17 g18 g19 g20 g21 g22 hP hP1 hPe hk hV
 go_enter func104, ntmps104
 go_wp2_with (first | (go_at_call 101; refine (RG.out _).mono ?_; rintro o wq ⟨rfl, hwq⟩; rw [hwq]; clear hwq wq) | (refine MA.out.mono ?_; rintro o wq ⟨rfl, hwq⟩; rw [hwq]; clear hwq wq MA) | (refine MB.out.mono ?_; rintro o wq ⟨rfl, hwq⟩; rw [hwq]; clear hwq wq MB))
 exact zq190
theorem mul_expand (a1 a0 b1 b0 : Nat) : (a1 * 65536 + a0) * (b1 * 65536 + b0) = a1 * b1 * 4294967296 + a1 * b0 * 65536 + a0 * b1 * 65536 + a0 * b0 := by
 rw [Nat.add_mul, Nat.mul_add, Nat.mul_add, Nat.mul_mul_mul_comm, Nat.mul_right_comm a1 65536 b0, <- Nat.mul_assoc a0 b1 65536]
 omega
theorem mul_nums (A B : Nat) (hA : A < 4294967296) (hB : B < 4294967296) : ∃ a1 a0 b1 b0 p11 p10 p01 p00 : Nat, (a1 = A / 65536 /\ a0 = A % 65536 /\ b1 = B / 65536 /\ b0 = B % 65536) /\ (p11 = a1 * b1 /\ p10 = a1 * b0 /\ p01 = a0 * b1 /\ p00 = a0 * b0) /\ (p11 <= 4294836225 /\ p10 <= 4294836225 /\ p01 <= 4294836225 /\ p00 <= 4294836225) /\ A * B = p11 * 4294967296 + p10 * 65536 + p01 * 65536 + p00 := by
 have e := mul_expand (A / 65536) (A % 65536) (B / 65536) (B % 65536)
 rw [show A / 65536 * 65536 + A % 65536 = A by omega, show B / 65536 * 65536 + B % 65536 = B by omega] at e
 have h1 : A / 65536 <= 65535 := by omega
 have h2 : A % 65536 <= 65535 := by omega
 have h3 : B / 65536 <= 65535 := by omega
 have h4 : B % 65536 <= 65535 := by omega
 exact ⟨_, _, _, _, _, _, _, _, ⟨rfl, rfl, rfl, rfl⟩, ⟨rfl, rfl, rfl, rfl⟩, ⟨Nat.mul_le_mul h1 h3, Nat.mul_le_mul h1 h4, Nat.mul_le_mul h2 h3, Nat.mul_le_mul h2 h4⟩, e⟩
theorem mulhsu_eq (A B : Nat) (hA : A < 4294967296) : wordN (((alu_mulhu A B : Nat) : Int) - (if 2147483648 <= A then (B : Int) else 0)) = alu_mulhsu A B := by
 unfold alu_mulhu alu_mulhsu sgn
 congr 1
 by_cases h : 2147483648 <= A
 . rw [if_pos h, if_pos (by omega), Int.sub_mul, show (A : Int) * (B : Int) = ((A * B : Nat) : Int) by simp]
   exact zq382
 . rw [if_neg h, if_neg (by omega), show (A : Int) * (B : Int) = ((A * B : Nat) : Int) by simp]
   exact zq382
theorem mulh_eq (A B : Nat) (hA : A < 4294967296) (hB : B < 4294967296) : wordN (((alu_mulhu A B : Nat) : Int) - (if 2147483648 <= A then (B : Int) else 0) - (if 2147483648 <= B then (A : Int) else 0)) = alu_mulh A B := by
 unfold alu_mulhu alu_mulh sgn wordN
 by_cases h : 2147483648 <= A <;> by_cases h2 : 2147483648 <= B
 . rw [if_pos h, if_pos h2, if_pos (by omega), if_pos (by omega), Int.sub_mul, Int.mul_sub, Int.mul_sub, show (A : Int) * (B : Int) = ((A * B : Nat) : Int) by simp]
   exact zq382
 . rw [if_pos h, if_neg h2, if_pos (by omega), if_neg (by omega), Int.sub_mul, show (A : Int) * (B : Int) = ((A * B : Nat) : Int) by simp]
   exact zq382
 . rw [if_neg h, if_pos h2, if_neg (by omega), if_pos (by omega), Int.mul_sub, show (A : Int) * (B : Int) = ((A * B : Nat) : Int) by simp]
   exact zq382
 . rw [if_neg h, if_neg h2, if_neg (by omega), if_neg (by omega), show (A : Int) * (B : Int) = ((A * B : Nat) : Int) by simp]
   exact zq382
theorem and_lowN (A k m : Nat) (hA : A < 9223372036854775808) (hk : k <= 32) (hm : m = 2 ^ k - 1) : bits .and .i64 (A : Int) (m : Int) = ((A % 2 ^ k : Nat) : Int) := by
 have : 2 ^ k <= 2 ^ 32 := Nat.pow_le_pow_right (by decide) hk
 rw [b_and A m hA (by omega), hm, Nat.and_two_pow_sub_one_eq_mod]
theorem mul_wrap (a b p : Nat) (h : p = a * b) (hp : p <= 4294836225) : wrap64 ((a : Int) * (b : Int)) = (p : Int) := by
 rw [show (a : Int) * (b : Int) = ((a * b : Nat) : Int) by simp, <- h]
 unfold wrap64; omega
theorem div16 (n : Nat) : (n : Int) / 65536 = ((n / 65536 : Nat) : Int) := by omega
theorem addW (a b : Nat) (h : a + b < 9223372036854775808) : wrap64 ((a : Int) + (b : Int)) = ((a + b : Nat) : Int) := by unfold wrap64; omega
theorem and16 (n : Nat) (h : n < 9223372036854775808) : bits .and .i64 (n : Int) 65535 = ((n % 65536 : Nat) : Int) := and_lowN n 16 65535 h (by decide) rfl
theorem shl16 (n : Nat) (h : n < 65536) : wrap64 ((n : Int) * 65536) = ((n * 65536 : Nat) : Int) := by unfold wrap64; omega
theorem or16 (n q : Nat) (h : n < 65536) (hq : q < 65536) : bits .or .i64 ((n * 65536 : Nat) : Int) (q : Int) = ((n * 65536 + q : Nat) : Int) := by
 have := or_hi q n 16 hq (by omega)
 rw [show (n * 2 ^ 16 : Nat) = n * 65536 from rfl] at this
 rw [b_or _ q (by omega) (by omega), Nat.or_comm, <- b_or q _ (by omega) (by omega), this, Nat.add_comm]
structure MuX (p11 p10 p01 p00 hi lo : Nat) (d m ml mh o ol oh e t pl : Nat) : Prop where
 x1 : (p00 : Int) / 65536 = (d : Int)
 x2 : wrap64 ((p10 : Int) + (d : Int)) = (m : Int)
 x3 : bits .and .i64 (m : Int) 65535 = (ml : Int)
 x4 : (m : Int) / 65536 = (mh : Int)
 x5 : wrap64 ((ml : Int) + (p01 : Int)) = (o : Int)
 x6 : bits .and .i64 (o : Int) 65535 = (ol : Int)
 x7 : (o : Int) / 65536 = (oh : Int)
 x8 : wrap64 ((p11 : Int) + (mh : Int)) = (e : Int)
 x9 : wrap64 ((e : Int) + (oh : Int)) = (hi : Int)
 y1 : wrap64 ((ol : Int) * 65536) = (t : Int)
 y2 : bits .and .i64 (p00 : Int) 65535 = (pl : Int)
 y3 : bits .or .i64 (t : Int) (pl : Int) = (lo : Int)
theorem mul_xs (p11 p10 p01 p00 : Nat) (r11 : p11 <= 4294836225) (r10 : p10 <= 4294836225) (r01 : p01 <= 4294836225) (r00 : p00 <= 4294836225) (Q : Nat) (hQ : Q = p11 * 4294967296 + p10 * 65536 + p01 * 65536 + p00) :
 ∃ d m ml mh o ol oh e t pl, MuX p11 p10 p01 p00 (Q / 4294967296) (Q % 4294967296) d m ml mh o ol oh e t pl := by
 have m1 : p10 + p00 / 65536 < 9223372036854775808 := by omega
 have o1 : (p10 + p00 / 65536) % 65536 + p01 < 9223372036854775808 := by omega
 have k1 : Q / 4294967296 = p11 + (p10 + p00 / 65536) / 65536 + ((p10 + p00 / 65536) % 65536 + p01) / 65536 := by omega
 have k2 : Q % 4294967296 = ((p10 + p00 / 65536) % 65536 + p01) % 65536 * 65536 + p00 % 65536 := by omega
 have e1 : p11 + (p10 + p00 / 65536) / 65536 < 9223372036854775808 := by omega
 have e2 : p11 + (p10 + p00 / 65536) / 65536 + ((p10 + p00 / 65536) % 65536 + p01) / 65536 < 9223372036854775808 := by omega
 exact ⟨_, _, _, _, _, _, _, _, _, _, ⟨div16 p00, addW _ _ m1, and16 _ m1, div16 _, addW _ _ o1, and16 _ o1, div16 _, addW _ _ e1, by rw [k1]; exact addW _ _ e2, shl16 _ (Nat.mod_lt _ (by decide)), and16 _ (by omega), by rw [k2]; exact or16 _ _ (Nat.mod_lt _ (by decide)) (Nat.mod_lt _ (by decide))⟩⟩
set_option maxRecDepth 100000 in
theorem k_multipliesS (mb : Nat) (A B : Nat) (hA : A < 4294967296) (hB : B < 4294967296) (w : World) (g : Int -> Int) (RG : Hid (RegG mb w g))
 (g9 : g 9 = (alu_mul A B : Nat)) (g10 : g 10 = (alu_mulhu A B : Nat)) (g11 : g 11 = (alu_mulh A B : Nat)) (g12 : g 12 = (alu_mulhsu A B : Nat)) :
 CS 103 #[.pointer (some ⟨mb, 0, none⟩), .int .i64 A, .int .i64 B] (.bool true) w := by
 have s12 := hide1 (mulhsu_eq A B hA)
 have s11 := hide1 (mulh_eq A B hA hB)
 have fa1 := div16 A
 have fb1 := div16 B
 have fa0 := and16 A (by omega)
 have fb0 := and16 B (by omega)
 obtain ⟨a1, a0, b1, b0, p11, p10, p01, p00, ⟨ha1, ha0, hb1, hb0⟩, ⟨q11, q10, q01, q00⟩, ⟨r11, r10, r01, r00⟩, hq⟩ := mul_nums A B hA hB
 rw [<- ha1] at fa1
 rw [<- hb1] at fb1
 rw [<- ha0] at fa0
 rw [<- hb0] at fb0
 have w11 := mul_wrap a1 b1 p11 q11 r11
 have w10 := mul_wrap a1 b0 p10 q10 r10
 have w01 := mul_wrap a0 b1 p01 q01 r01
 have w00 := mul_wrap a0 b0 p00 q00 r00
 obtain ⟨d, m, ml, mh, o, ol, oh, e, t, pl, H⟩ := mul_xs p11 p10 p01 p00 r11 r10 r01 r00 _ hq
 have x1 := H.x1
 have x2 := H.x2
 have x3 := H.x3
 have x4 := H.x4
 have x5 := H.x5
 have x6 := H.x6
 have x7 := H.x7
 have x8 := H.x8
 have x9 : wrap64 ((e : Int) + (oh : Int)) = g 10 := H.x9.trans g10.symm
 have y1 := H.y1
 have y2 := H.y2
 have y3 : bits .or .i64 (t : Int) (pl : Int) = g 9 := H.y3.trans g9.symm
 have F12 : bits .and .i64 (((alu_mulhu A B : Nat) : Int) - (if 2147483648 <= A then (B : Int) else 0)) 4294967295 = g 12 := mask_to _ _ (by rw [g12, s12.out])
 have F11 : bits .and .i64 (((alu_mulhu A B : Nat) : Int) - (if 2147483648 <= A then (B : Int) else 0) - (if 2147483648 <= B then (A : Int) else 0)) 4294967295 = g 11 := mask_to _ _ (by rw [g11, s11.out])
 have hu1 : alu_mulhu A B < 4294967296 := by
  unfold alu_mulhu
  have : A * B <= 4294967295 * 4294967295 := Nat.mul_le_mul (by omega) (by omega)
  generalize A * B = Q at *
  omega
 generalize alu_mulhu A B = u at *
 clear H hq q11 q10 q01 q00 r11 r10 r01 r00 ha1 ha0 hb1 hb0 s12 s11 g9 g11 g12
 have c1 : wrap64 ((u : Int) - (B : Int)) = (u : Int) - (B : Int) := by unfold wrap64; omega
 have c2 : wrap64 ((u : Int) - (A : Int)) = (u : Int) - (A : Int) := by unfold wrap64; omega
 have c3 : wrap64 ((u : Int) - (B : Int) - (A : Int)) = (u : Int) - (B : Int) - (A : Int) := by unfold wrap64; omega
 by_cases cA : 2147483648 <= A <;> by_cases cB : 2147483648 <= B
 all_goals
  have dA : decide (2147483648 <= (A : Int)) = decide (2147483648 <= A) := decide_eq_decide.2 (by omega)
  have dB : decide (2147483648 <= (B : Int)) = decide (2147483648 <= B) := decide_eq_decide.2 (by omega)
  simp only [cA, cB, decide_true, decide_false, if_true, if_false, Int.sub_zero] at dA dB F12 F11
  clear cA cB hA hB hu1
  go_enter func103, ntmps103
  go_wp2_with (go_at_call 101; refine (RG.out _).mono ?_; rintro o wq ⟨rfl, hwq⟩; rw [hwq]; clear hwq wq)
  go_ret
  refine ⟨?_, rfl⟩
  first
   | rfl
   | (show Ending.returned (.bool (g 11 == g 12)) = _; rw [show g 11 = g 12 from F11.symm.trans F12]; simp)
theorem sgn_in (A : Nat) (hA : A < 4294967296) : -2147483648 <= sgn A /\ sgn A < 2147483648 /\ sgn A % 4294967296 = A := by
 unfold sgn; split <;> omega
theorem sgn_word (T : Int) (h0 : -2147483648 <= T) (h1 : T < 2147483648) : sgn (wordN T : Nat) = T := by
 unfold sgn wordN; split <;> omega
theorem sgn_nil (B : Nat) (hB : B < 4294967296) : sgn B = 0 ↔ B = 0 := by
 unfold sgn; split <;> omega
theorem tdiv_nums (a b : Int) (hb : b ≠ 0) : (a.tdiv b).natAbs <= a.natAbs /\ (a - a.tdiv b * b).natAbs < b.natAbs /\ (a - a.tdiv b * b < 0 -> a < 0) /\ (0 < a - a.tdiv b * b -> 0 < a) := by
 have e : a - a.tdiv b * b = a.tmod b := by rw [Int.tmod_def, Int.mul_comm]
 rw [e]
 refine ⟨?_, ?_, ?_, ?_⟩
 . rw [Int.natAbs_tdiv]; exact Nat.div_le_self _ _
 . rw [Int.natAbs_tmod]; exact Nat.mod_lt _ (by omega)
 . intro h
   exact Classical.byContradiction fun h2 => by have := Int.tmod_nonneg b (show 0 <= a by omega); omega
 . intro h
   refine Classical.byContradiction fun h2 => ?_
   have := Int.tmod_nonneg b (show 0 <= -a by omega)
   rw [Int.neg_tmod] at this; omega
theorem tdiv_small (a b : Int) (h0 : -2147483648 <= a) (h1 : a < 2147483648) (hb : b ≠ 0) (ho : ¬ (a = -2147483648 /\ b = -1)) : -2147483648 <= a.tdiv b /\ a.tdiv b < 2147483648 := by
 have h := (tdiv_nums a b hb).1
 by_cases e : b = 1
 . subst e; rw [Int.tdiv_one]; omega
 by_cases e2 : b = -1
 . subst e2
   rw [show a.tdiv (-1) = -a by rw [Int.tdiv_neg, Int.tdiv_one]]; omega
 have : (a.tdiv b).natAbs <= a.natAbs / 2 := by
  rw [Int.natAbs_tdiv]; exact Nat.div_le_div_left (by omega) (by decide)
 omega
theorem whole_eq (A B : Nat) (hA : A < 4294967296) (hB : B < 4294967296) (T M : Int) (h : T * sgn B + M = sgn A) : alu_add (alu_mul (wordN T) B) (wordN M) = A := by
 have hb := (sgn_in B hB).2.2
 have ha := (sgn_in A hA).2.2
 unfold alu_add alu_mul
 have e1 : (((wordN T * B % 4294967296 : Nat)) : Int) = (T * sgn B) % 4294967296 := by
  rw [Int.natCast_emod, Int.natCast_mul, wordN_cast, Int.mul_emod T (sgn B), hb]
  rfl
 have e2 : ((wordN M : Nat) : Int) = M % 4294967296 := wordN_cast M
 rw [<- h] at ha
 generalize T * sgn B = P at *
 omega
structure DvX (A B qu ru : Nat) (sa sb T M : Int) (pq : Nat) (P : Int) : Prop where
 u2 : wrap64 ((qu : Int) * (B : Int)) = (pq : Int)
 u3 : wrap64 ((pq : Int) + (ru : Int)) = (A : Int)
 u4 : decide ((B : Int) <= (ru : Int)) = false
 t1 : wrap64 (T * sb) = P
 t2 : wrap64 (P + M) = sa
 t3 : wrap64 (-sb) = -sb
 t4 : wrap64 (-M) = -M
 t5 : M < 0 -> sa < 0 /\ (sb < 0 -> -M < -sb) /\ (¬ sb < 0 -> -M < sb)
 t6 : ¬ M < 0 -> (sb < 0 -> M < -sb) /\ (¬ sb < 0 -> M < sb) /\ (M = 0 \/ 0 < sa)
theorem divu_xs (A B : Nat) (hA : A < 4294967296) (h0 : B ≠ 0) : wrap64 (((A / B : Nat) : Int) * (B : Int)) = ((A / B * B : Nat) : Int) /\ wrap64 (((A / B * B : Nat) : Int) + ((A % B : Nat) : Int)) = (A : Int) /\ decide ((B : Int) <= ((A % B : Nat) : Int)) = false := by
 have hm := Nat.div_add_mod A B
 have hr : A % B < B := Nat.mod_lt A (by omega)
 rw [Nat.mul_comm] at hm
 rw [<- Int.natCast_mul]
 generalize A / B * B = Z at *
 generalize A % B = r at *
 refine ⟨?_, ?_, decide_eq_false (by omega)⟩
 . unfold wrap64; omega
 . unfold wrap64; omega
theorem fin_xs (sa sb P : Int) (a0 : -2147483648 <= sa) (a1 : sa < 2147483648) (b0 : -2147483648 <= sb) (b1 : sb < 2147483648) (n2 : (sa - P).natAbs < sb.natAbs) (n3 : sa - P < 0 -> sa < 0) (n4 : 0 < sa - P -> 0 < sa) :
 wrap64 P = P /\ wrap64 (P + (sa - P)) = sa /\ wrap64 (-sb) = -sb /\ wrap64 (-(sa - P)) = -(sa - P) /\ (sa - P < 0 -> sa < 0 /\ (sb < 0 -> -(sa - P) < -sb) /\ (¬ sb < 0 -> -(sa - P) < sb)) /\ (¬ sa - P < 0 -> (sb < 0 -> sa - P < -sb) /\ (¬ sb < 0 -> sa - P < sb) /\ (sa - P = 0 \/ 0 < sa)) /\ -2147483648 <= sa - P /\ sa - P < 2147483648 := by
 refine ⟨?_, ?_, ?_, ?_, ?_, ?_, ?_, ?_⟩
 . unfold wrap64; omega
 . unfold wrap64; omega
 . unfold wrap64; omega
 . unfold wrap64; omega
 . intro h; exact ⟨n3 h, fun _ => by omega, fun _ => by omega⟩
 . intro h; exact ⟨fun _ => by omega, fun _ => by omega, by omega⟩
 . omega
 . omega
theorem div_xs (A B : Nat) (hA : A < 4294967296) (hB : B < 4294967296) (h0 : B ≠ 0) (ho : ¬ (sgn A = -2147483648 /\ sgn B = -1)) :
 ∃ (T M : Int) (pq : Nat) (P : Int), DvX A B (A / B) (A % B) (sgn A) (sgn B) T M pq P /\ alu_div A B = wordN T /\ alu_rem A B = wordN M /\ (-2147483648 <= T /\ T < 2147483648) /\ (-2147483648 <= M /\ M < 2147483648) /\ alu_add (alu_mul (wordN T) B) (wordN M) = A := by
 have hs : sgn B ≠ 0 := fun h => h0 ((sgn_nil B hB).1 h)
 obtain ⟨a0, a1, _⟩ := sgn_in A hA
 obtain ⟨b0, b1, _⟩ := sgn_in B hB
 obtain ⟨n1, n2, n3, n4⟩ := tdiv_nums (sgn A) (sgn B) hs
 have hT := tdiv_small (sgn A) (sgn B) a0 a1 hs ho
 have hw := whole_eq A B hA hB ((sgn A).tdiv (sgn B)) (sgn A - (sgn A).tdiv (sgn B) * sgn B) (by omega)
 have hdv : alu_div A B = wordN ((sgn A).tdiv (sgn B)) := by unfold alu_div; rw [if_neg h0]
 have hrm : alu_rem A B = wordN (sgn A - (sgn A).tdiv (sgn B) * sgn B) := by unfold alu_rem; rw [if_neg h0]
 obtain ⟨e1, e2, e3⟩ := divu_xs A B hA h0
 obtain ⟨f1, f2, f3, f4, f5, f6, f7⟩ := fin_xs (sgn A) (sgn B) ((sgn A).tdiv (sgn B) * sgn B) a0 a1 b0 b1 n2 n3 n4
 exact ⟨_, _, _, _, ⟨e1, e2, e3, f1, f2, f3, f4, f5, f6⟩, hdv, hrm, hT, f7, hw⟩
structure DvF (a b q r qu ru wh whu : Int) : Prop where
 e1 : wh = a
 e2 : whu = a
 z : b = 0 -> r = a /\ ru = a /\ q = 4294967295 /\ qu = 4294967295
 d1 : ¬ b = 0 -> 0 < qu -> b <= a / qu
 d2 : ¬ b = 0 -> wrap64 (wrap64 (qu * b) + ru) = a
 d3 : ¬ b = 0 -> ru < b
 o1 : sgn a = -2147483648 -> sgn b = -1 -> sgn q = -2147483648 /\ sgn r = 0
 n1 : ¬ b = 0 -> ¬ (sgn a = -2147483648 /\ sgn b = -1) -> wrap64 (wrap64 (sgn q * sgn b) + sgn r) = sgn a
 n2 : ¬ b = 0 -> ¬ (sgn a = -2147483648 /\ sgn b = -1) -> sgn r < 0 -> sgn a < 0 /\ (sgn b < 0 -> wrap64 (-sgn r) < wrap64 (-sgn b)) /\ (0 <= sgn b -> wrap64 (-sgn r) < sgn b)
 n3 : ¬ b = 0 -> ¬ (sgn a = -2147483648 /\ sgn b = -1) -> 0 <= sgn r -> (sgn b < 0 -> sgn r < wrap64 (-sgn b)) /\ (0 <= sgn b -> sgn r < sgn b) /\ (sgn r = 0 \/ 0 < sgn a)
set_option maxRecDepth 100000 in
theorem k_dividesW (mb : Nat) (a b q r qu ru wh whu : Int) (a0 : 0 <= a) (a1 : a < 4294967296) (b0 : 0 <= b) (b1 : b < 4294967296) (w : World) (q0 : 0 <= q) (q1 : q < 4294967296) (r0 : 0 <= r) (r1 : r < 4294967296) (qu0 : 0 <= qu) (qu1 : qu < 4294967296) (ru0 : 0 <= ru) (ru1 : ru < 4294967296) (wh0 : 0 <= wh) (wh1 : wh < 4294967296) (whu0 : 0 <= whu) (whu1 : whu < 4294967296)
 (R3 : Hid (CS 101 #[.pointer (some ⟨mb, 0, none⟩), .int .i64 3] (.int .i64 q) w))
 (R4 : Hid (CS 101 #[.pointer (some ⟨mb, 0, none⟩), .int .i64 4] (.int .i64 r) w))
 (R6 : Hid (CS 101 #[.pointer (some ⟨mb, 0, none⟩), .int .i64 6] (.int .i64 qu) w))
 (R7 : Hid (CS 101 #[.pointer (some ⟨mb, 0, none⟩), .int .i64 7] (.int .i64 ru) w))
 (R5 : Hid (CS 101 #[.pointer (some ⟨mb, 0, none⟩), .int .i64 5] (.int .i64 wh) w))
 (R8 : Hid (CS 101 #[.pointer (some ⟨mb, 0, none⟩), .int .i64 8] (.int .i64 whu) w))
 (F : Hid (DvF a b q r qu ru wh whu)) :
 CS 102 #[.pointer (some ⟨mb, 0, none⟩), .int .i64 a, .int .i64 b] (.bool true) w := by
 have MI := hide1 (fun x h0 h1 => k_minus x h0 h1 w)
 go_enter func102, ntmps102
 go_wp2_with (first | (go_at_call 101; first | (refine R3.out.mono ?_; rintro o wq ⟨rfl, hwq⟩; rw [hwq]; clear hwq wq R3) | (refine R4.out.mono ?_; rintro o wq ⟨rfl, hwq⟩; rw [hwq]; clear hwq wq R4) | (refine R6.out.mono ?_; rintro o wq ⟨rfl, hwq⟩; rw [hwq]; clear hwq wq R6) | (refine R7.out.mono ?_; rintro o wq ⟨rfl, hwq⟩; rw [hwq]; clear hwq wq R7) | (refine R5.out.mono ?_; rintro o wq ⟨rfl, hwq⟩; rw [hwq]; clear hwq wq R5) | (refine R8.out.mono ?_; rintro o wq ⟨rfl, hwq⟩; rw [hwq]; clear hwq wq R8)) | (go_at_call 108; refine (MI.out _ (by omega) (by omega)).mono ?_; rintro o wq ⟨rfl, hwq⟩; rw [hwq]; clear hwq wq))
 all_goals
  go_ret
  refine ⟨congrArg (fun x => Ending.returned (Value.bool x)) ?_, rfl⟩
  obtain ⟨e1, e2, z, d1, d2, d3, o1, n1, n2, n3⟩ := F.out
  clear F MI
 all_goals first
  | rfl
  | (exfalso; simp only [bne_iff_ne, ne_eq, bne_eq_false_iff_eq, beq_iff_eq, beq_eq_false_iff_ne, decide_eq_true_eq, decide_eq_false_iff_not] at *; omega)
  | (simp only [bne_iff_ne, ne_eq, bne_eq_false_iff_eq, beq_iff_eq, beq_eq_false_iff_ne, decide_eq_true_eq, decide_eq_false_iff_not, Bool.or_eq_true] at *; omega)
  | (exfalso; omega)
theorem wholeu_eq (A B : Nat) (hA : A < 4294967296) : alu_add (alu_mul (alu_divu A B) B) (alu_remu A B) = A := by
 unfold alu_add alu_mul alu_divu alu_remu
 by_cases h : B = 0
 . subst h; simp; omega
 . rw [if_neg h, if_neg h]
   have hm := Nat.div_add_mod A B
   rw [Nat.mul_comm] at hm
   generalize A / B * B = Z at *
   generalize A % B = r at *
   omega
theorem q_big (A B q : Nat) (hq : q = A / B) (h : 0 < q) : B <= A / q := by
 have h1 : q * B <= A := by rw [hq]; exact Nat.div_mul_le_self A B
 exact (Nat.le_div_iff_mul_le h).2 (by rw [Nat.mul_comm]; exact h1)
theorem dv_zero (A : Nat) (hA : A < 4294967296) : DvF A (0 : Nat) (alu_div A 0 : Nat) (alu_rem A 0 : Nat) (alu_divu A 0 : Nat) (alu_remu A 0 : Nat) (alu_add (alu_mul (alu_div A 0) 0) (alu_rem A 0) : Nat) (alu_add (alu_mul (alu_divu A 0) 0) (alu_remu A 0) : Nat) := by
 have e1 : alu_div A 0 = 4294967295 := rfl
 have e2 : alu_rem A 0 = A := rfl
 have e3 : alu_divu A 0 = 4294967295 := rfl
 have e4 : alu_remu A 0 = A := rfl
 have e5 : alu_mul 4294967295 0 = 0 := rfl
 have e6 : alu_add 0 A = A := by unfold alu_add; omega
 rw [e1, e2, e3, e4, e5, e6]
 exact ⟨rfl, rfl, fun _ => ⟨rfl, rfl, rfl, rfl⟩, fun h => absurd rfl h, fun h => absurd rfl h, fun h => absurd rfl h, fun _ h => absurd h (by decide), fun h => absurd rfl h, fun h => absurd rfl h, fun h => absurd rfl h⟩
theorem dv_over : DvF (2147483648 : Nat) (4294967295 : Nat) (alu_div 2147483648 4294967295 : Nat) (alu_rem 2147483648 4294967295 : Nat) (alu_divu 2147483648 4294967295 : Nat) (alu_remu 2147483648 4294967295 : Nat) (alu_add (alu_mul (alu_div 2147483648 4294967295) 4294967295) (alu_rem 2147483648 4294967295) : Nat) (alu_add (alu_mul (alu_divu 2147483648 4294967295) 4294967295) (alu_remu 2147483648 4294967295) : Nat) := by
 have e1 : alu_div 2147483648 4294967295 = 2147483648 := by decide
 have e2 : alu_rem 2147483648 4294967295 = 0 := by decide
 have e3 : alu_divu 2147483648 4294967295 = 0 := by decide
 have e4 : alu_remu 2147483648 4294967295 = 2147483648 := by decide
 have e5 : alu_mul 2147483648 4294967295 = 2147483648 := by decide
 have e6 : alu_mul 0 4294967295 = 0 := by decide
 have e7 : alu_add 2147483648 0 = 2147483648 := by decide
 have e8 : alu_add 0 2147483648 = 2147483648 := by decide
 rw [e1, e2, e3, e4, e5, e6, e7, e8]
 exact ⟨rfl, rfl, fun h => absurd h (by decide), fun _ h => absurd h (by decide), fun _ => by unfold wrap64; omega, fun _ => by decide, fun _ _ => by decide, fun _ h => absurd (by decide) h, fun _ h => absurd (by decide) h, fun _ h => absurd (by decide) h⟩
theorem dv_norm (A B : Nat) (hA : A < 4294967296) (hB : B < 4294967296) (h0 : B ≠ 0) (ho : ¬ (sgn A = -2147483648 /\ sgn B = -1)) : DvF A B (alu_div A B : Nat) (alu_rem A B : Nat) (alu_divu A B : Nat) (alu_remu A B : Nat) (alu_add (alu_mul (alu_div A B) B) (alu_rem A B) : Nat) (alu_add (alu_mul (alu_divu A B) B) (alu_remu A B) : Nat) := by
 obtain ⟨T, M, pq, P, H, hd, hr, hT, hM, hw⟩ := div_xs A B hA hB h0 ho
 have hq : alu_divu A B = A / B := by unfold alu_divu; rw [if_neg h0]
 have hu : alu_remu A B = A % B := by unfold alu_remu; rw [if_neg h0]
 have sT := sgn_word T hT.1 hT.2
 have sM := sgn_word M hM.1 hM.2
 have hb := q_big A B (A / B) rfl
 have t5 := H.t5
 have t6 := H.t6
 refine ⟨?_, ?_, ?_, ?_, ?_, ?_, ?_, ?_, ?_, ?_⟩
 . rw [hd, hr, hw]
 . rw [wholeu_eq A B hA]
 . intro h; exact absurd (Int.ofNat.inj h) h0
 . intro _ h
   rw [hq] at h |-
   rw [<- Int.natCast_ediv]
   exact Int.ofNat_le.2 (hb (Int.ofNat_lt.1 h))
 . intro _
   rw [hq, hu, H.u2, H.u3]
 . intro _
   rw [hu]
   exact Int.not_le.1 (of_decide_eq_false H.u4)
 . intro h1 h2; exact absurd ⟨h1, h2⟩ ho
 . intro _ _
   rw [hd, hr, sT, sM, H.t1, H.t2]
 . intro _ _ h
   rw [hr, sM] at h |-
   rw [H.t3, H.t4]
   exact ⟨(t5 h).1, (t5 h).2.1, fun h' => (t5 h).2.2 (Int.not_lt.2 h')⟩
 . intro _ _ h
   rw [hr, sM] at h |-
   rw [H.t3]
   have t := t6 (Int.not_lt.2 h)
   exact ⟨t.1, fun h' => t.2.1 (Int.not_lt.2 h'), t.2.2⟩
theorem dv_facts (A B : Nat) (hA : A < 4294967296) (hB : B < 4294967296) : DvF A B (alu_div A B : Nat) (alu_rem A B : Nat) (alu_divu A B : Nat) (alu_remu A B : Nat) (alu_add (alu_mul (alu_div A B) B) (alu_rem A B) : Nat) (alu_add (alu_mul (alu_divu A B) B) (alu_remu A B) : Nat) := by
 by_cases h0 : B = 0
 . subst h0; exact dv_zero A hA
 by_cases ho : sgn A = -2147483648 /\ sgn B = -1
 . obtain ⟨h1, h2⟩ := ho
   have eA : A = 2147483648 := by unfold sgn at h1; split at h1 <;> omega
   have eB : B = 4294967295 := by unfold sgn at h2; split at h2 <;> omega
   subst eA eB; exact dv_over
 . exact dv_norm A B hA hB h0 ho
theorem divs_lt (A B : Nat) (hA : A < 4294967296) (hB : B < 4294967296) : alu_div A B < 4294967296 /\ alu_rem A B < 4294967296 /\ alu_divu A B < 4294967296 /\ alu_remu A B < 4294967296 := by
 refine ⟨?_, ?_, ?_, ?_⟩
 . unfold alu_div; split
   . omega
   . unfold wordN; omega
 . unfold alu_rem; split
   . omega
   . unfold wordN; omega
 . unfold alu_divu; split
   . omega
   . exact Nat.lt_of_le_of_lt (Nat.div_le_self A B) hA
 . unfold alu_remu; split
   . omega
   . exact Nat.lt_of_le_of_lt (Nat.mod_le A B) hA
theorem k_dividesS (mb : Nat) (A B : Nat) (hA : A < 4294967296) (hB : B < 4294967296) (w : World) (g : Int -> Int) (RG : Hid (RegG mb w g))
 (g3 : g 3 = (alu_div A B : Nat)) (g4 : g 4 = (alu_rem A B : Nat)) (g5 : g 5 = (alu_add (alu_mul (alu_div A B) B) (alu_rem A B) : Nat)) (g6 : g 6 = (alu_divu A B : Nat)) (g7 : g 7 = (alu_remu A B : Nat)) (g8 : g 8 = (alu_add (alu_mul (alu_divu A B) B) (alu_remu A B) : Nat)) :
 CS 102 #[.pointer (some ⟨mb, 0, none⟩), .int .i64 A, .int .i64 B] (.bool true) w := by
 have F := hide1 (dv_facts A B hA hB)
 have l5 : alu_add (alu_mul (alu_div A B) B) (alu_rem A B) < 4294967296 := by unfold alu_add; exact Nat.mod_lt _ (by decide)
 have l8 : alu_add (alu_mul (alu_divu A B) B) (alu_remu A B) < 4294967296 := by unfold alu_add; exact Nat.mod_lt _ (by decide)
 obtain ⟨l3, l4, l6, l7⟩ := divs_lt A B hA hB
 generalize alu_add (alu_mul (alu_div A B) B) (alu_rem A B) = v5 at *
 generalize alu_add (alu_mul (alu_divu A B) B) (alu_remu A B) = v8 at *
 generalize alu_div A B = v3 at *
 generalize alu_rem A B = v4 at *
 generalize alu_divu A B = v6 at *
 generalize alu_remu A B = v7 at *
 refine k_dividesW mb A B v3 v4 v6 v7 v5 v8 (Int.natCast_nonneg _) (by omega) (Int.natCast_nonneg _) (by omega) w (Int.natCast_nonneg _) (by omega) (Int.natCast_nonneg _) (by omega) (Int.natCast_nonneg _) (by omega) (Int.natCast_nonneg _) (by omega) (Int.natCast_nonneg _) (by omega) (Int.natCast_nonneg _) (by omega) ?_ ?_ ?_ ?_ ?_ ?_ F
 . rw [<- g3]; exact hide1 (RG.out 3)
 . rw [<- g4]; exact hide1 (RG.out 4)
 . rw [<- g6]; exact hide1 (RG.out 6)
 . rw [<- g7]; exact hide1 (RG.out 7)
 . rw [<- g5]; exact hide1 (RG.out 5)
 . rw [<- g8]; exact hide1 (RG.out 8)
set_option maxRecDepth 100000 in
theorem k_mathsS (a b : Int) (w : World) : CK 47 #[.int .i64 a, .int .i64 b] (.bool true) w := by
 go_enter func47, ntmps47
 go_wp2_with fail
 refine (k_builtS mthC (by decide) _ (by kernel_rfl) a b w).mono ?_
 rintro o w1 ⟨⟨mb, rb, X, rfl, hm⟩, hkp⟩
 have hA : wordN a < 4294967296 := by unfold wordN; omega
 have hB : wordN b < 4294967296 := by unfold wordN; omega
 obtain ⟨Y, r1, r2⟩ := mth_run a b X hm.qu _ _ rfl rfl
 have RN := hide1 (x_Run mb rb X hm.inv 25 (by decide) w1 (hide1 hm.xat))
 simp only [r1] at RN
 have l1 := hm.l1
 have l2 := hm.l2
 have K1 := hide1 hkp
 clear hm hkp r1
 generalize wordN a = A at *
 generalize wordN b = B at *
 obtain ⟨g, hg⟩ := zn1 (fun i => (regU Y.x i).1 : Int -> Int)
 have RG : Hid (∀ W, XAt W mb rb Y -> RegG mb W g) := hide1 (fun W hW i => by rw [hg]; exact k_regS mb rb Y i W hW)
 have gv : ∀ i : Nat, i < 32 -> g i = ((Y.x.getD i 0 : Nat) : Int) := fun i hi => by rw [hg]; show (regU Y.x (i : Int)).1 = _; unfold regU; rw [if_pos (by omega)]; rfl
 rw [r2] at gv
 have g1 : g 1 = (A : Nat) := gv 1 (by decide)
 have g2 : g 2 = (B : Nat) := gv 2 (by decide)
 have DV := hide1 (fun W (h : Hid (RegG mb W g)) => k_dividesS mb A B hA hB W g h (gv 3 (by decide)) (gv 4 (by decide)) (gv 5 (by decide)) (gv 6 (by decide)) (gv 7 (by decide)) (gv 8 (by decide)))
 have MU := hide1 (fun W (h : Hid (RegG mb W g)) => k_multipliesS mb A B hA hB W g h (gv 9 (by decide)) (gv 10 (by decide)) (gv 11 (by decide)) (gv 12 (by decide)))
 have BI := hide1 (fun W (h : Hid (RegG mb W g)) => k_bitwiseS mb A B hA hB W g h (gv 13 (by decide)) (gv 14 (by decide)) (gv 15 (by decide)) (gv 16 (by decide)) (gv 17 (by decide)) (gv 18 (by decide)) (gv 19 (by decide)) (gv 20 (by decide)) (gv 21 (by decide)) (gv 22 (by decide)))
 clear gv hg r2 hA hB
 go_wp2_with fail
 refine RN.out.mono ?_
 rintro o w2 ⟨rfl, hx, hkq⟩
 have K2 := hide1 (kept_new K1.out hkq l1 l2)
 have G2 := hide1 (RG.out w2 hx)
 clear hx hkq K1 RN RG
 go_wp2_with (first | (go_at_call 101; refine (G2.out _).mono ?_; rintro o wq ⟨rfl, hwq⟩; rw [hwq]; clear hwq wq) | (go_at_call 102; refine (DV.out _ G2).mono ?_; rintro o wq ⟨rfl, hwq⟩; rw [hwq]; clear hwq wq) | (go_at_call 103; refine (MU.out _ G2).mono ?_; rintro o wq ⟨rfl, hwq⟩; rw [hwq]; clear hwq wq) | (go_at_call 104; refine (BI.out _ G2).mono ?_; rintro o wq ⟨rfl, hwq⟩; rw [hwq]; clear hwq wq))
 go_ret
 exact ⟨rfl, K2.out⟩
end
end Go.Proofs.YtmlgonbhoknoiaaGreatDoor
