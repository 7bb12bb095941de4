import Derived.Test.YtmlgonbhoknoiabGreatDoorBAR
import Derived.Test.YtmlgonbhoknoiabGreatDoorBAU
set_option maxHeartbeats 8000000
set_option linter.all false
namespace Go.Proofs.YtmlgonbhoknoiabGreatDoor
open Go.RowKit Go.Proofs.Tryz
section
attribute [local go_sem ↓] Go.wp_at_zero Go.wp_at_succ
set_option maxRecDepth 100000 in
theorem k_loads (a b : Int) (w : World) : Calls prog 47 #[.int .i64 a, .int .i64 b] w fun o w' => BoolR o /\ Kept [] w w' := by
 go_enter func47, ntmps47
 go_wp2_with fail
 refine (k_built _ _ _ w).mono ?_
 rintro o w1 ⟨rfl | ⟨mb, rb, l1, l2, rfl, hm⟩, hk⟩
 . exact zq382
 have M1 := hide1 hm
 have K1 := hide1 hk
 clear hm hk
 go_wp2_with fail
 refine (m_Run mb rb _ 22 w1 M1.out).mono ?_
 exact zq383
set_option maxRecDepth 100000 in
theorem k_self (k : Int) (w : World) : Calls prog 44 #[.int .i64 k] w fun o w' => BoolR o /\ Kept [] w w' := by
 go_enter func44, ntmps44
 go_wp2_with fail
 refine (k_built _ _ _ w).mono ?_
 rintro o w1 ⟨rfl | ⟨mb, rb, l1, l2, rfl, hm⟩, hk⟩
 . exact zq382
 have M1 := hide1 hm
 have K1 := hide1 hk
 clear hm hk
 go_wp2_with fail
 refine (m_Run mb rb _ 12 w1 M1.out).mono ?_
 exact zq383
set_option maxRecDepth 100000 in
theorem k_mapper (s : ByteArray) (va v root low : Int) (w : World) : Calls prog 96 #[.string s, .int .i64 va, .int .i64 v, .int .i64 root, .int .i64 low] w fun e w' => MadeR w w' 16384 e := by
 have N := hide1 (m_New 16384 (by decide) w)
 go_enter func96, ntmps96
 go_wp2_with fail
 refine N.out.mono ?_
 rintro o w1 ⟨rfl, hm1, hk1⟩
 have M1 := hide1 hm1
 have K1 := hide1 hk1
 clear N hm1 hk1
 go_wp2_with fail
 refine (a_Asm' s _).mono ?_
 rintro o w2 ⟨⟨X, er, n, rfl⟩, hk2⟩
 have M2 := hide1 (M1.out.kept hk2)
 have K2 := hide1 (K1.out.trans hk2)
 clear hk2 M1 K1
 by_cases her : er = 0
 . have q : (er != 0) = false := by simp [her]
   have q' : (er == 0) = true := by simp [her]
   clear her
   go_wp2_with fail
   refine (m_Load _ _ _ _ _ w2 M2.out).mono ?_
   rintro o w3 ⟨⟨e2, rfl⟩, hm, hk⟩
   have M3 := hide1 hm
   have K3 := hide1 (kept_new K2.out hk (by omega) (by omega))
   clear hm hk M2 K2
   go_wp2_with fail
   refine (u_Le4' _ _).mono ?_
   rintro o w4 ⟨⟨A0, hA0, rfl⟩, hk⟩
   have M4 := hide1 (M3.out.kept hk)
   have K4 := hide1 (K3.out.trans hk)
   clear hk M3 K3
   go_wp2_with fail
   refine (m_Load _ _ _ _ _ w4 M4.out).mono ?_
   rintro o w5 ⟨⟨e4, rfl⟩, hm, hk⟩
   have M5 := hide1 hm
   have K5 := hide1 (kept_new K4.out hk (by omega) (by omega))
   clear hm hk M4 K4
   go_wp2_with fail
   refine (u_Le4' _ _).mono ?_
   rintro o w6 ⟨⟨A, hA, rfl⟩, hk⟩
   have M6 := hide1 (M5.out.kept hk)
   have K6 := hide1 (K5.out.trans hk)
   clear hk M5 K5
   go_wp2_with fail
   refine (u_Le4' _ _).mono ?_
   rintro o w7 ⟨⟨B, hB, rfl⟩, hk⟩
   have M7 := hide1 (M6.out.kept hk)
   have K7 := hide1 (K6.out.trans hk)
   clear hk M6 K6
   go_wp2_with fail
   refine (u_Le4' _ _).mono ?_
   rintro o w8 ⟨⟨C, hC, rfl⟩, hk⟩
   have M8 := hide1 (M7.out.kept hk)
   have K8 := hide1 (K7.out.trans hk)
   clear hk M7 K7
   go_wp2_with fail
   refine (u_Le4' _ _).mono ?_
   rintro o w9 ⟨⟨D, hD, rfl⟩, hk⟩
   have M9 := hide1 (M8.out.kept hk)
   have K9 := hide1 (K8.out.trans hk)
   clear hk M8 K8
   obtain ⟨c1, g1, z1, hc1⟩ := add_in A B (by omega)
   obtain ⟨c2, g2, z2, hc2⟩ := add_in c1 C (by omega)
   obtain ⟨c3, g3, z3, hc3⟩ := add_in c2 D (by omega)
   clear g1 g2 g3 z1 z2 z3 hA hB hC hD hA0
   go_wp2_with fail
   refine (m_Load _ _ _ _ _ w9 M9.out).mono ?_
   rintro o w10 ⟨⟨e9, rfl⟩, hm, hk⟩
   have M10 := hide1 hm
   have K10 := hide1 (kept_new K9.out hk (by omega) (by omega))
   clear hm hk M9 K9
   go_wp2_with fail
   refine (u_Le4' _ _).mono ?_
   rintro o w11 ⟨⟨F, hF, rfl⟩, hk⟩
   have M11 := hide1 (M10.out.kept hk)
   have K11 := hide1 (K10.out.trans hk)
   clear hk M10 K10
   go_wp2_with fail
   refine (m_Load _ _ _ _ _ w11 M11.out).mono ?_
   rintro o w12 ⟨⟨e11, rfl⟩, hm, hk⟩
   have M12 := hide1 hm
   have K12 := hide1 (kept_new K11.out hk (by omega) (by omega))
   clear hm hk M11 K11
   go_wp2_with fail
   refine (u_Le4' _ _).mono ?_
   rintro o w13 ⟨⟨G, hG, rfl⟩, hk⟩
   have M13 := hide1 (M12.out.kept hk)
   have K13 := hide1 (K12.out.trans hk)
   clear hk M12 K12
   go_wp2_with fail
   refine (m_Load _ _ _ _ _ w13 M13.out).mono ?_
   rintro o w14 ⟨⟨e13, rfl⟩, hm, hk⟩
   have M14 := hide1 hm
   have K14 := hide1 (kept_new K13.out hk (by omega) (by omega))
   clear hm hk M13 K13
   go_wp2_with fail
   go_ret
   exact ⟨.inr ⟨_, _, by omega, by omega, rfl, M14.out⟩, K14.out⟩
 . exact zq361
theorem and_any (a : Int) (c : Nat) (hc : c < 9223372036854775808) : bits .and .i64 a (c : Int) = (((a % 18446744073709551616).toNat &&& c : Nat) : Int) := by
 have hx : bits .and .i64 a (c : Int) = IntKind.i64.wrap (((BitVec.ofInt 64 a &&& BitVec.ofInt 64 (c : Int)).toNat : Nat) : Int) := rfl
 have h1 : (BitVec.ofInt 64 a).toNat = (a % 18446744073709551616).toNat := by simp [BitVec.toNat_ofInt]
 rw [hx, BitVec.toNat_and, h1, bv_nat c hc]
 exact wrap_nat63 _ (Nat.lt_of_le_of_lt Nat.and_le_right hc)
theorem va_any (a : Int) : ∃ n : Nat, n <= 4294967292 /\ n % 4 = 0 /\ bits .and .i64 a 4294967292 = (n : Int) := by
 refine ⟨(a % 18446744073709551616).toNat &&& 4294967292, Nat.and_le_right, ?_, and_any a 4294967292 (by decide)⟩
 have h := bit_andN (a % 18446744073709551616).toNat 4294967292 0
 have h2 := bit_andN (a % 18446744073709551616).toNat 4294967292 1
 simp at h h2
 omega
theorem v_any (a : Int) : ∃ n : Nat, n <= 4294967295 /\ bits .and .i64 a 4294967295 = (n : Int) :=
 ⟨(a % 18446744073709551616).toNat &&& 4294967295, Nat.and_le_right, and_any a 4294967295 (by decide)⟩
theorem va_big (n : Nat) (h : n <= 4294967292) (h4 : n % 4 = 0) : ∃ m : Nat, m <= 4294967292 /\ m % 4 = 0 /\ bits .or .i64 (bits .or .i64 (bits .andNot .i64 (n : Int) 4194303) 12288) (bits .and .i64 (n : Int) 4095) = (m : Int) := by
 have e1 : bits .andNot .i64 (n : Int) 4194303 = ((wout n 4194303 : Nat) : Int) := b_andn n 4194303 (by omega) (by decide)
 have hw := wout_le n 4194303
 have e2 : bits .or .i64 ((wout n 4194303 : Nat) : Int) 12288 = ((wout n 4194303 ||| 12288 : Nat) : Int) := b_or _ 12288 (by omega) (by decide)
 have e3 : bits .and .i64 (n : Int) 4095 = ((n &&& 4095 : Nat) : Int) := b_and n 4095 (by omega) (by decide)
 have l2 : wout n 4194303 ||| 12288 < 4294967296 := nat_or_lt _ _ 32 (by omega) (by decide)
 have l3 : n &&& 4095 <= 4095 := Nat.and_le_right
 have e4 := b_or (wout n 4194303 ||| 12288) (n &&& 4095) (by omega) (by omega)
 have l4 : (wout n 4194303 ||| 12288) ||| (n &&& 4095) < 4294967296 := nat_or_lt _ _ 32 l2 (by omega)
 have m4 : ((wout n 4194303 ||| 12288) ||| (n &&& 4095)) % 4 = 0 := by
  have b0 := bit_orN (wout n 4194303 ||| 12288) (n &&& 4095) 0
  have b1 := bit_orN (wout n 4194303 ||| 12288) (n &&& 4095) 1
  have c0 := bit_andN n 4095 0
  have c1 := bit_andN n 4095 1
  have d0 := bit_orN (wout n 4194303) 12288 0
  have d1 := bit_orN (wout n 4194303) 12288 1
  have f0 := bit_woutN n 4194303 0
  have f1 := bit_woutN n 4194303 1
  simp at b0 b1 c0 c1 d0 d1 f0 f1
  have g0 : n % 2 = 0 := by omega
  have g1 : n / 2 % 2 = 0 := by omega
  rw [g1] at c1
  simp [g0, d0, f0] at b0
  simp [c1, d1, f1] at b1
  omega
 exact ⟨_, by omega, m4, by rw [e1, e2, e3, e4]⟩
theorem k_regS (mb rb : Nat) (X : XS) (i : Int) (w : World) (hw : XAt w mb rb X) : CS 91 #[.pointer (some ⟨mb, 0, none⟩), .int .i64 i] (.int .i64 (regU X.x i).1) w := by
 have R := hide1 (ux_Reg mb rb X i w hw)
 generalize (regU X.x i).1 = a at R |-
 generalize (regU X.x i).2 = b at R
 go_enter func91, ntmps91
 go_wp2_with fail
 refine R.out.mono ?_
 rintro o w1 ⟨rfl, hw1⟩
 rw [hw1]
 exact zq204
theorem mask_any (a : Int) : bits .and .i64 a 4294967295 = (wordN a : Int) := by
 have := and_any a 4294967295 (by decide)
 rw [show ((4294967295 : Nat) : Int) = 4294967295 from rfl] at this
 rw [this, show (4294967295 : Nat) = 2 ^ 32 - 1 from rfl, Nat.and_two_pow_sub_one_eq_mod]
 unfold wordN; omega
theorem mask_nat (V : Nat) : bits .and .i64 (V : Int) 4294967295 = ((V % 4294967296 : Nat) : Int) := by
 rw [mask_any]; unfold wordN; omega
theorem slt_1 (A B : Nat) : (((alu_slt A B : Nat) : Int) == 1) = decide (sgn A < sgn B) := by
 unfold alu_slt
 by_cases h : sgn A < sgn B
 . rw [if_pos h, decide_eq_true h]; rfl
 . rw [if_neg h, decide_eq_false h]; rfl
theorem sltu_1 (A B : Nat) : (((alu_sltu A B : Nat) : Int) == 1) = decide ((A : Int) < (B : Int)) := by
 unfold alu_sltu
 by_cases h : A < B
 . rw [if_pos h, decide_eq_true (by omega)]; rfl
 . rw [if_neg h, decide_eq_false (by omega)]; rfl
theorem slt_2 (A B : Nat) : decide (1 < ((alu_slt A B : Nat) : Int)) = false := by
 unfold alu_slt; split <;> rfl
theorem sltu_2 (A B : Nat) : decide (1 < ((alu_sltu A B : Nat) : Int)) = false := by
 unfold alu_sltu; split <;> rfl
def RegG (mb : Nat) (w : World) (g : Int -> Int) : Prop := ∀ i, CS 91 #[.pointer (some ⟨mb, 0, none⟩), .int .i64 i] (.int .i64 (g i)) w
theorem imm_eqs (A K J : Nat) (hA : A < 4294967296) (hK : K = 4294967289) (hJ : J = 5) : bits .and .i64 (wrap64 ((A : Int) - 7)) 4294967295 = ((alu_add A K : Nat) : Int) /\ (((alu_slt A K : Nat) : Int) == 1) = decide (sgn (A : Int) < -7) /\ (((alu_sltu A K : Nat) : Int) == 1) = decide ((A : Int) < 4294967289) /\ bits .xor .i64 (A : Int) 4294967289 = ((alu_xor A K : Nat) : Int) /\ bits .or .i64 (A : Int) 4294967289 = ((alu_or A K : Nat) : Int) /\ bits .and .i64 (A : Int) 4294967289 = ((alu_and A K : Nat) : Int) := by
 have kz : ((K : Nat) : Int) = 4294967289 := by omega
 have e1 := slt_1 A K
 have e2 := sltu_1 A K
 have e3 := b_xor A K (by omega) (by omega)
 have e4 := b_or A K (by omega) (by omega)
 have e5 := b_and A K (by omega) (by omega)
 have ks : sgn (K : Int) = -7 := by rw [kz]; rfl
 rw [ks] at e1
 rw [kz] at e2 e3 e4 e5
 refine ⟨?_, e1, e2, e3, e4, e5⟩
 rw [mask_any]
 unfold alu_add wordN wrap64
 clear e1 e2 e3 e4 e5 ks
 omega
theorem shf_eqs (A J : Nat) (hA : A < 4294967296) (hJ : J = 5) : wrap64 ((A : Int) * 32) = ((A * 32 : Nat) : Int) /\ bits .and .i64 ((A * 32 : Nat) : Int) 4294967295 = ((alu_sll A J : Nat) : Int) /\ (A : Int) / 32 = ((alu_srl A J : Nat) : Int) /\ bits .and .i64 (sgn (A : Int) / 32) 4294967295 = ((alu_sra A J : Nat) : Int) := by
 subst hJ
 have p : 2 ^ (5 % 32) = 32 := rfl
 refine ⟨?_, ?_, ?_, ?_⟩
 . unfold wrap64; omega
 . rw [mask_nat]; unfold alu_sll; rw [p]
 . unfold alu_srl; rw [p]; omega
 . unfold alu_sra; rw [mask_any]; rfl
theorem csr_eqs (A B : Nat) (hA : A < 4294967296) (hB : B < 4294967296) : bits .or .i64 (A : Int) (B : Int) = ((A ||| B : Nat) : Int) /\ bits .andNot .i64 (B : Int) (A : Int) = ((wout (A ||| B) A : Nat) : Int) := by
 refine ⟨b_or A B (by omega) (by omega), ?_⟩
 rw [b_andn B A (by omega) (by omega)]
 have h1 := or_and A A B (Nat.le_refl _)
 have h2 : (A ||| B) &&& A = A := by
  apply Nat.eq_of_testBit_eq; intro i
  rw [Nat.testBit_and, Nat.testBit_or]
  cases Nat.testBit A i <;> simp
 have h3 : B &&& A = A &&& B := Nat.and_comm B A
 have h4 : A &&& B <= B := Nat.and_le_right
 unfold wout
 rw [h2, h3]
 generalize A ||| B = o at *
 generalize A &&& B = n at *
 omega
theorem k_formsS (mb : Nat) (A B s1 s2 : Nat) (w : World) (g : Int -> Int) (G2 : Hid (RegG mb w g)) (q1 : bits .or .i64 (A : Int) (B : Int) = (s1 : Int)) (q2 : bits .andNot .i64 (B : Int) (A : Int) = (s2 : Int)) (g20 : g 20 = 0) (g21 : g 21 = (A : Nat)) (g22 : g 22 = (s1 : Nat)) (g23 : g 23 = (s2 : Nat)) (g24 : g 24 = (s2 : Nat)) (g25 : g 25 = 21) (g26 : g 26 = 31) (g27 : g 27 = 30) :
 CS 99 #[.pointer (some ⟨mb, 0, none⟩), .int .i64 A, .int .i64 B] (.bool true) w := by
 go_enter func99, ntmps99
 go_wp2_with (go_at_call 91; refine (G2.out _).mono ?_; rintro o wq ⟨rfl, hwq⟩; rw [hwq]; clear hwq wq)
 exact zq190
theorem stay_eqs (A B : Nat) : ∃ c1 c2 : Int, ((A = B -> c1 = 2) /\ (¬ A = B -> c1 = 1)) /\ ((sgn (B : Int) <= sgn (A : Int) -> wrap64 (c1 + 4) = c2) /\ (sgn (A : Int) < sgn (B : Int) -> wrap64 (c1 + 8) = c2)) /\ ((B <= A -> wrap64 (c2 + 16) = (stayN A B : Int)) /\ (A < B -> wrap64 (c2 + 32) = (stayN A B : Int))) := by
 unfold stayN
 simp only [decide_eq_true_eq]
 by_cases h1 : A = B
 . by_cases h2 : sgn (A : Int) < sgn (B : Int)
   . rw [h1] at h2; omega
   . refine ⟨2, 6, ⟨fun _ => rfl, fun h => absurd h1 h⟩, ⟨fun _ => by unfold wrap64; omega, fun h => by omega⟩, ?_, ?_⟩
     . intro h; rw [if_pos h1, if_neg h2, if_neg (by omega)]; unfold wrap64; omega
     . intro h; omega
 . by_cases h2 : sgn (A : Int) < sgn (B : Int)
   . refine ⟨1, 9, ⟨fun h => absurd h h1, fun _ => rfl⟩, ⟨fun h => by omega, fun _ => by unfold wrap64; omega⟩, ?_, ?_⟩
     . intro h; rw [if_neg h1, if_pos h2, if_neg (by omega)]; unfold wrap64; omega
     . intro h; rw [if_neg h1, if_pos h2, if_pos (by omega)]; unfold wrap64; omega
   . refine ⟨1, 5, ⟨fun h => absurd h h1, fun _ => rfl⟩, ⟨fun _ => by unfold wrap64; omega, fun h => by omega⟩, ?_, ?_⟩
     . intro h; rw [if_neg h1, if_neg h2, if_neg (by omega)]; unfold wrap64; omega
     . intro h; rw [if_neg h1, if_neg h2, if_pos (by omega)]; unfold wrap64; omega
set_option maxRecDepth 100000 in
theorem k_branchesS (a b : Int) (w : World) : CK 48 #[.int .i64 a, .int .i64 b] (.bool true) w := by
 obtain ⟨K, hK, hKz⟩ : ∃ K : Nat, wordN (-7) = K /\ K = 4294967289 := ⟨_, rfl, rfl⟩
 obtain ⟨J, hJ, hJz⟩ : ∃ J : Nat, wordN 5 = J /\ J = 5 := ⟨_, rfl, rfl⟩
 have HA := mask_any a
 have HB := mask_any b
 have hA : wordN a < 4294967296 := by unfold wordN; omega
 have hB : wordN b < 4294967296 := by unfold wordN; omega
 go_enter func48, ntmps48
 go_wp2_with fail
 refine (k_builtS braC (by decide) _ (by kernel_rfl) a b w).mono ?_
 rintro o w1 ⟨⟨mb, rb, X, rfl, hm⟩, hkp⟩
 obtain ⟨Y, r1, r2⟩ := bra_run a b X hm.qu hm.res hm.sc _ _ K J rfl rfl hK hJ
 have RN := hide1 (x_Run mb rb X hm.inv 29 (by decide) w1 (hide1 hm.xat))
 simp only [r1] at RN
 have l1 := hm.l1
 have l2 := hm.l2
 have K1 := hide1 hkp
 clear hm hkp r1
 generalize wordN a = A at *
 generalize wordN b = B at *
 obtain ⟨g, hg⟩ := zn1 (fun i => (regU Y.x i).1 : Int -> Int)
 have RG : Hid (∀ W, XAt W mb rb Y -> RegG mb W g) := hide1 (fun W hW i => by rw [hg]; exact k_regS mb rb Y i W hW)
 have gv : ∀ i : Nat, i < 32 -> g i = ((Y.x.getD i 0 : Nat) : Int) := fun i hi => by rw [hg]; show (regU Y.x (i : Int)).1 = _; unfold regU; rw [if_pos (by omega)]; rfl
 rw [r2] at gv
 have g3 : g 3 = (alu_add A K : Nat) := gv 3 (by decide)
 have g4 : g 4 = (alu_slt A K : Nat) := gv 4 (by decide)
 have g5 : g 5 = (alu_sltu A K : Nat) := gv 5 (by decide)
 have g6 : g 6 = (alu_xor A K : Nat) := gv 6 (by decide)
 have g7 : g 7 = (alu_or A K : Nat) := gv 7 (by decide)
 have g8 : g 8 = (alu_and A K : Nat) := gv 8 (by decide)
 have g9 : g 9 = (alu_sll A J : Nat) := gv 9 (by decide)
 have g10 : g 10 = (stayN A B : Nat) := gv 10 (by decide)
 have g11 : g 11 = (alu_srl A J : Nat) := gv 11 (by decide)
 have g12 : g 12 = (alu_sra A J : Nat) := gv 12 (by decide)
 have g21 : g 21 = (A : Nat) := gv 21 (by decide)
 have g22 : g 22 = (A ||| B : Nat) := gv 22 (by decide)
 have g23 : g 23 = (wout (A ||| B) A : Nat) := gv 23 (by decide)
 have g24 : g 24 = (wout (A ||| B) A : Nat) := gv 24 (by decide)
 have g20 : g 20 = 0 := gv 20 (by decide)
 have g25 : g 25 = 21 := gv 25 (by decide)
 have g26 : g 26 = 31 := gv 26 (by decide)
 have g27 : g 27 = 30 := gv 27 (by decide)
 obtain ⟨q3, L1, L2, q6, q7, q8⟩ := imm_eqs A K J hA hKz hJz
 have L3 : decide (1 < g 4) = false := g4 ▸ slt_2 A K
 have L4 : decide (1 < g 5) = false := g5 ▸ sltu_2 A K
 rw [<- g4] at L1
 rw [<- g5] at L2
 obtain ⟨q9, q9', q11, q12⟩ := shf_eqs A J hA hJz
 obtain ⟨z1, z2⟩ := csr_eqs A B hA hB
 obtain ⟨c1, c2, D1, D2, D3⟩ := stay_eqs A B
 have MA := hide1 (fun W => k_minus (A : Int) (Int.natCast_nonneg _) (Int.ofNat_lt.2 hA) W)
 have MB := hide1 (fun W => k_minus (B : Int) (Int.natCast_nonneg _) (Int.ofNat_lt.2 hB) W)
 replace D1 := hide1 D1
 replace D2 := hide1 D2
 replace D3 := hide1 D3
 have FO := hide1 (fun W (h : Hid (RegG mb W g)) => k_formsS mb A B _ _ W g h z1 z2 g20 g21 g22 g23 g24 g25 g26 g27)
 clear z1 z2 g20 g21 g22 g23 g24 g25 g26 g27 g4 g5 gv hg r2 hA hB hK hJ hKz hJz
 generalize alu_add A K = v3 at *
 generalize alu_xor A K = v6 at *
 generalize alu_or A K = v7 at *
 generalize alu_and A K = v8 at *
 generalize alu_sll A J = v9 at *
 generalize alu_srl A J = v11 at *
 generalize alu_sra A J = v12 at *
 generalize ((A * 32 : Nat) : Int) = V at *
 generalize ((stayN A B : Nat) : Int) = c3 at *
 generalize sgn (A : Int) = sa at *
 generalize sgn (B : Int) = sb at *
 clear K J
 go_wp2_with fail
 refine RN.out.mono ?_
 rintro o w2 ⟨rfl, hx, hkq⟩
 have K2 := hide1 (kept_new K1.out hkq l1 l2)
 have G2 := hide1 (RG.out w2 hx)
 clear hx hkq K1 RN RG
 go_upto_if 33 with fail
 go_cut [6] (fun p wx => p = .int .i64 c1 /\ wx = w2)
 case first =>
  go_wp2_with fail
  all_goals
   go_meet
   case rel => exact ⟨congrArg (Value.int .i64) (by first | exact (D1.out.1 (Int.ofNat.inj (bne_eq_false_iff_eq.1 ‹((A : Int) != (B : Int)) = false›))).symm | exact (D1.out.2 (fun k => (bne_iff_ne.1 ‹((A : Int) != (B : Int)) = true›) (congrArg (fun n : Nat => (n : Int)) k))).symm), rfl⟩
 case rest =>
 obtain ⟨rfl, hwc⟩ := hcut
 rw [hwc]
 clear hwc D1
 go_upto_if 44 with (first | (go_at_call 98; refine (MA.out _).mono ?_; rintro o wq ⟨rfl, hwq⟩; rw [hwq]; clear hwq wq) | (go_at_call 98; refine (MB.out _).mono ?_; rintro o wq ⟨rfl, hwq⟩; rw [hwq]; clear hwq wq))
 go_cut [6] (fun p wx => p = .int .i64 c2 /\ wx = w2)
 case first =>
  go_wp2_with fail
  all_goals
   go_meet
   case rel => exact ⟨congrArg (Value.int .i64) (by first | exact D2.out.1 (by assumption) | exact D2.out.2 (by assumption)), rfl⟩
 case rest =>
 obtain ⟨rfl, hwc⟩ := hcut
 rw [hwc]
 clear hwc D2
 go_upto_if 51 with fail
 go_cut [6] (fun p wx => p = .int .i64 c3 /\ wx = w2)
 case first =>
  go_wp2_with fail
  all_goals
   go_meet
   case rel => exact ⟨congrArg (Value.int .i64) (by first | exact D3.out.1 (by assumption) | exact D3.out.2 (by assumption) | exact D3.out.1 (Int.ofNat_le.1 (by assumption)) | exact D3.out.2 (Nat.lt_of_not_le (by assumption)) | exact D3.out.2 (Int.ofNat_lt.1 (by assumption))), rfl⟩
 case rest =>
 obtain ⟨rfl, hwc⟩ := hcut
 rw [hwc]
 clear hwc D3
 go_wp2_with (first | (go_at_call 91; refine (G2.out _).mono ?_; rintro o wq ⟨rfl, hwq⟩; rw [hwq]; clear hwq wq) | (go_at_call 99; refine (FO.out _ G2).mono ?_; rintro o wq ⟨rfl, hwq⟩; rw [hwq]; clear hwq wq))
 go_ret
 exact ⟨rfl, K2.out⟩
set_option maxRecDepth 100000 in
theorem k_alarm (a b : Int) (w : World) : Calls prog 43 #[.int .i64 a, .int .i64 b] w fun o w' => BoolR o /\ Kept [] w w' := by
 go_enter func43, ntmps43
 go_wp2_with fail
 refine (k_built _ _ _ w).mono ?_
 rintro o w1 ⟨rfl | ⟨mb, rb, l1, l2, rfl, hm⟩, hk⟩
 . exact zq382
 have M1 := hide1 hm
 have K1 := hide1 hk
 clear hm hk
 go_wp2_with fail
 refine (m_Run mb rb _ 8 w1 M1.out).mono ?_
 rintro o w2 ⟨⟨v, er, q0, q1, rfl⟩, hm, hk⟩
 have M2 := hide1 hm
 have K2 := hide1 (kept_new K1.out hk l1 l2)
 clear hm hk M1 K1
 go_wp2_with fail
 refine (m_Tick mb rb _ a w2 M2.out).mono ?_
 rintro o w3 ⟨⟨er, rfl⟩, hm, hk⟩
 have M3 := hide1 hm
 have K3 := hide1 (kept_new K2.out hk l1 l2)
 clear hm hk M2 K2
 go_wp2_with fail
 refine (m_Run mb rb _ 12 w3 M3.out).mono ?_
 rintro o w4 ⟨⟨v, er, q0, q1, rfl⟩, hm, hk⟩
 have M4 := hide1 hm
 have K4 := hide1 (kept_new K3.out hk l1 l2)
 clear hm hk M3 K3
 have CR := hide1 (fun i => k_csr mb rb i w4 (hide1 M4.out.m))
 have RG := hide1 (fun i => m_Reg0 mb rb w4 M4.out.m i)
 go_wp2_with (first | (go_at_call 95; refine (CR.out _).mono ?_; rintro o wq ⟨⟨v, h0, h1, rfl⟩, hkq⟩; have KQ := hide1 (K4.out.trans hkq); clear hkq) | (go_at_call 91; refine (RG.out _).mono ?_; rintro o wq ⟨⟨v, h0, h1, rfl⟩, hwq⟩; rw [hwq]; clear hwq wq))
 all_goals
  go_ret
  first | exact ⟨⟨_, rfl⟩, K4.out⟩ | exact ⟨⟨_, rfl⟩, KQ.out⟩
set_option maxRecDepth 100000 in
theorem k_echo (s : ByteArray) (hs : s.size <= 1125899906842624) (w : World) : Calls prog 42 #[.string s] w fun o w' => BoolR o /\ Kept [] w w' := by
 go_enter func42, ntmps42
 go_wp2_with fail
 refine (k_built _ _ _ w).mono ?_
 rintro o w1 ⟨rfl | ⟨mb, rb, l1, l2, rfl, hm⟩, hk⟩
 . exact zq382
 have M1 := hide1 hm
 have K1 := hide1 hk
 clear hm hk
 go_wp2_with fail
 refine (m_Feed mb rb _ s w1 M1.out).mono ?_
 rintro o w2 ⟨⟨nf, ef, f0, f1, f2, rfl⟩, hm, hk⟩
 have M2 := hide1 hm
 have K2 := hide1 (kept_new K1.out hk l1 l2)
 clear hm hk M1 K1
 go_wp2_with fail
 refine (m_Run mb rb _ 64 w2 M2.out).mono ?_
 rintro o w3 ⟨⟨v, er, q0, q1, rfl⟩, hm, hk⟩
 have M3 := hide1 hm
 have K3 := hide1 (kept_new K2.out hk l1 l2)
 clear hm hk M2 K2
 go_wp2_with fail
 refine (m_Drain mb rb _ w3 M3.out).mono ?_
 rintro o w4 ⟨⟨sd, dz, rfl⟩, hm, hk⟩
 have M4 := hide1 hm
 have K4 := hide1 (kept_new K3.out hk l1 l2)
 clear hm hk M3 K3
 have RG := hide1 (fun i => m_Reg0 mb rb w4 M4.out.m i)
 go_wp2_with (first | (go_at_call 91; refine (RG.out _).mono ?_; rintro o wq ⟨⟨v, h0, h1, rfl⟩, hwq⟩; rw [hwq]; clear hwq wq))
 all_goals
  go_ret
  exact ⟨⟨_, rfl⟩, K4.out⟩
set_option maxRecDepth 100000 in
theorem k_amos (a b : Int) (w : World) : Calls prog 49 #[.int .i64 a, .int .i64 b] w fun o w' => BoolR o /\ Kept [] w w' := by
 go_enter func49, ntmps49
 go_wp2_with fail
 refine (k_built _ _ _ w).mono ?_
 rintro o w1 ⟨rfl | ⟨mb, rb, l1, l2, rfl, hm⟩, hk⟩
 . exact zq382
 have M1 := hide1 hm
 have K1 := hide1 hk
 clear hm hk
 go_wp2_with fail
 refine (m_Run mb rb _ 30 w1 M1.out).mono ?_
 rintro o w2 ⟨⟨v, er, q0, q1, rfl⟩, hm, hk⟩
 have M2 := hide1 hm
 have K2 := hide1 (kept_new K1.out hk l1 l2)
 clear hm hk M1 K1
 have RG := hide1 (fun i => m_Reg0 mb rb w2 M2.out.m i)
 by_cases h30 : v = 30
 . subst h30
   go_wp2_with fail
   go_loopw [8] (fun c wr => ∃ i : Nat, i <= 21 /\ c = .int .i64 i /\ wr = w2) (fun c _ => 30 - (intOf c).toNat)
   case atStart => exact ⟨3, by omega, rfl, rfl⟩
   case round =>
    obtain ⟨i, hi, rfl, rfl⟩ := hrel
    by_cases hlt : i < 20
    . have hlt' : decide ((i : Int) < 20) = true := by simp; omega
      go_wp2_with (first | (go_at_call 91; refine (RG.out _).mono ?_; rintro o wq ⟨⟨v, h0, h1, rfl⟩, hwq⟩; rw [hwq]; clear hwq wq))
      all_goals first
       | (go_ret; exact ⟨⟨_, rfl⟩, K2.out⟩)
       | (go_roundw
          case rel => exact ⟨i + 2, by omega, by go_num, by first | rfl | trivial⟩
          case measure => simp [intOf]; omega)
    . have hlt' : decide ((i : Int) < 20) = false := by simp; omega
      go_wp2_with (first | (go_at_call 91; refine (RG.out _).mono ?_; rintro o wq ⟨⟨v, h0, h1, rfl⟩, hwq⟩; rw [hwq]; clear hwq wq) | (go_at_call 98; refine (k_minusA _ _).mono ?_; rintro o wq ⟨⟨vm, rfl⟩, hwq⟩; rw [hwq]; clear hwq wq))
      all_goals
       go_ret
       exact ⟨⟨_, rfl⟩, K2.out⟩
 . have q : (v != 30) = true := by simp [h30]
   have q' : (v == 30) = false := by simp [h30]
   clear h30
   go_wp2_with fail
   go_ret
   exact ⟨⟨_, rfl⟩, K2.out⟩
end
end Go.Proofs.YtmlgonbhoknoiabGreatDoor
