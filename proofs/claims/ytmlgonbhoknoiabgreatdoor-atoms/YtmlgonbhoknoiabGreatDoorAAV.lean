import Derived.Test.YtmlgonbhoknoiabGreatDoorAAR
import Derived.Test.YtmlgonbhoknoiabGreatDoorAAU
set_option maxHeartbeats 8000000
set_option linter.all false
namespace Go.Proofs.YtmlgonbhoknoiabGreatDoor
open Go.RowKit Go.Proofs.Tryz
section
attribute [local go_sem ↓] Go.wp_at_zero Go.wp_at_succ
set_option maxRecDepth 100000 in
theorem k_loads (a b : Int) (w : World) : Calls prog 47 #[.int .i64 a, .int .i64 b] w fun o w' => BoolR o /\ Kept [] w w' := by
 go_enter func47, ntmps47
 go_wp2_with fail
 refine (k_built _ _ _ w).mono ?_
 rintro o w1 ⟨rfl | ⟨mb, rb, l1, l2, rfl, hm⟩, hk⟩
 . exact zq384
 have M1 := hide1 hm
 have K1 := hide1 hk
 clear hm hk
 go_wp2_with fail
 refine (m_Run mb rb _ 22 w1 M1.out).mono ?_
 exact zq385
set_option maxRecDepth 100000 in
theorem k_self (k : Int) (w : World) : Calls prog 44 #[.int .i64 k] w fun o w' => BoolR o /\ Kept [] w w' := by
 go_enter func44, ntmps44
 go_wp2_with fail
 refine (k_built _ _ _ w).mono ?_
 rintro o w1 ⟨rfl | ⟨mb, rb, l1, l2, rfl, hm⟩, hk⟩
 . exact zq384
 have M1 := hide1 hm
 have K1 := hide1 hk
 clear hm hk
 go_wp2_with fail
 refine (m_Run mb rb _ 12 w1 M1.out).mono ?_
 exact zq385
set_option maxRecDepth 100000 in
theorem k_mapper (s : ByteArray) (va v root low : Int) (w : World) : Calls prog 96 #[.string s, .int .i64 va, .int .i64 v, .int .i64 root, .int .i64 low] w fun e w' => MadeR w w' 16384 e := by
 have N := hide1 (m_New 16384 (by decide) w)
 go_enter func96, ntmps96
 go_wp2_with fail
 refine N.out.mono ?_
 rintro o w1 ⟨rfl, hm1, hk1⟩
 have M1 := hide1 hm1
 have K1 := hide1 hk1
 clear N hm1 hk1
 go_wp2_with fail
 refine (a_Asm' s _).mono ?_
 rintro o w2 ⟨⟨X, er, n, rfl⟩, hk2⟩
 have M2 := hide1 (M1.out.kept hk2)
 have K2 := hide1 (K1.out.trans hk2)
 clear hk2 M1 K1
 by_cases her : er = 0
 . have q : (er != 0) = false := by simp [her]
   have q' : (er == 0) = true := by simp [her]
   clear her
   go_wp2_with fail
   refine (m_Load _ _ _ _ _ w2 M2.out).mono ?_
   rintro o w3 ⟨⟨e2, rfl⟩, hm, hk⟩
   have M3 := hide1 hm
   have K3 := hide1 (kept_new K2.out hk (by omega) (by omega))
   clear hm hk M2 K2
   go_wp2_with fail
   refine (u_Le4' _ _).mono ?_
   rintro o w4 ⟨⟨A0, hA0, rfl⟩, hk⟩
   have M4 := hide1 (M3.out.kept hk)
   have K4 := hide1 (K3.out.trans hk)
   clear hk M3 K3
   go_wp2_with fail
   refine (m_Load _ _ _ _ _ w4 M4.out).mono ?_
   rintro o w5 ⟨⟨e4, rfl⟩, hm, hk⟩
   have M5 := hide1 hm
   have K5 := hide1 (kept_new K4.out hk (by omega) (by omega))
   clear hm hk M4 K4
   go_wp2_with fail
   refine (u_Le4' _ _).mono ?_
   rintro o w6 ⟨⟨A, hA, rfl⟩, hk⟩
   have M6 := hide1 (M5.out.kept hk)
   have K6 := hide1 (K5.out.trans hk)
   clear hk M5 K5
   go_wp2_with fail
   refine (u_Le4' _ _).mono ?_
   rintro o w7 ⟨⟨B, hB, rfl⟩, hk⟩
   have M7 := hide1 (M6.out.kept hk)
   have K7 := hide1 (K6.out.trans hk)
   clear hk M6 K6
   go_wp2_with fail
   refine (u_Le4' _ _).mono ?_
   rintro o w8 ⟨⟨C, hC, rfl⟩, hk⟩
   have M8 := hide1 (M7.out.kept hk)
   have K8 := hide1 (K7.out.trans hk)
   clear hk M7 K7
   go_wp2_with fail
   refine (u_Le4' _ _).mono ?_
   rintro o w9 ⟨⟨D, hD, rfl⟩, hk⟩
   have M9 := hide1 (M8.out.kept hk)
   have K9 := hide1 (K8.out.trans hk)
   clear hk M8 K8
   obtain ⟨c1, g1, z1, hc1⟩ := add_in A B (by omega)
   obtain ⟨c2, g2, z2, hc2⟩ := add_in c1 C (by omega)
   obtain ⟨c3, g3, z3, hc3⟩ := add_in c2 D (by omega)
   clear g1 g2 g3 z1 z2 z3 hA hB hC hD hA0
   go_wp2_with fail
   refine (m_Load _ _ _ _ _ w9 M9.out).mono ?_
   rintro o w10 ⟨⟨e9, rfl⟩, hm, hk⟩
   have M10 := hide1 hm
   have K10 := hide1 (kept_new K9.out hk (by omega) (by omega))
   clear hm hk M9 K9
   go_wp2_with fail
   refine (u_Le4' _ _).mono ?_
   rintro o w11 ⟨⟨F, hF, rfl⟩, hk⟩
   have M11 := hide1 (M10.out.kept hk)
   have K11 := hide1 (K10.out.trans hk)
   clear hk M10 K10
   go_wp2_with fail
   refine (m_Load _ _ _ _ _ w11 M11.out).mono ?_
   rintro o w12 ⟨⟨e11, rfl⟩, hm, hk⟩
   have M12 := hide1 hm
   have K12 := hide1 (kept_new K11.out hk (by omega) (by omega))
   clear hm hk M11 K11
   go_wp2_with fail
   refine (u_Le4' _ _).mono ?_
   rintro o w13 ⟨⟨G, hG, rfl⟩, hk⟩
   have M13 := hide1 (M12.out.kept hk)
   have K13 := hide1 (K12.out.trans hk)
   clear hk M12 K12
   go_wp2_with fail
   refine (m_Load _ _ _ _ _ w13 M13.out).mono ?_
   rintro o w14 ⟨⟨e13, rfl⟩, hm, hk⟩
   have M14 := hide1 hm
   have K14 := hide1 (kept_new K13.out hk (by omega) (by omega))
   clear hm hk M13 K13
   go_wp2_with fail
   go_ret
   exact ⟨.inr ⟨_, _, by omega, by omega, rfl, M14.out⟩, K14.out⟩
 . exact zq363
theorem and_any (a : Int) (c : Nat) (hc : c < 9223372036854775808) : bits .and .i64 a (c : Int) = (((a % 18446744073709551616).toNat &&& c : Nat) : Int) := by
 have hx : bits .and .i64 a (c : Int) = IntKind.i64.wrap (((BitVec.ofInt 64 a &&& BitVec.ofInt 64 (c : Int)).toNat : Nat) : Int) := rfl
 have h1 : (BitVec.ofInt 64 a).toNat = (a % 18446744073709551616).toNat := by simp [BitVec.toNat_ofInt]
 rw [hx, BitVec.toNat_and, h1, bv_nat c hc]
 exact wrap_nat63 _ (Nat.lt_of_le_of_lt Nat.and_le_right hc)
theorem va_any (a : Int) : ∃ n : Nat, n <= 4294967292 /\ n % 4 = 0 /\ bits .and .i64 a 4294967292 = (n : Int) := by
 refine ⟨(a % 18446744073709551616).toNat &&& 4294967292, Nat.and_le_right, ?_, and_any a 4294967292 (by decide)⟩
 have h := bit_andN (a % 18446744073709551616).toNat 4294967292 0
 have h2 := bit_andN (a % 18446744073709551616).toNat 4294967292 1
 simp at h h2
 omega
theorem v_any (a : Int) : ∃ n : Nat, n <= 4294967295 /\ bits .and .i64 a 4294967295 = (n : Int) :=
 ⟨(a % 18446744073709551616).toNat &&& 4294967295, Nat.and_le_right, and_any a 4294967295 (by decide)⟩
theorem va_big (n : Nat) (h : n <= 4294967292) (h4 : n % 4 = 0) : ∃ m : Nat, m <= 4294967292 /\ m % 4 = 0 /\ bits .or .i64 (bits .or .i64 (bits .andNot .i64 (n : Int) 4194303) 12288) (bits .and .i64 (n : Int) 4095) = (m : Int) := by
 have e1 : bits .andNot .i64 (n : Int) 4194303 = ((wout n 4194303 : Nat) : Int) := b_andn n 4194303 (by omega) (by decide)
 have hw := wout_le n 4194303
 have e2 : bits .or .i64 ((wout n 4194303 : Nat) : Int) 12288 = ((wout n 4194303 ||| 12288 : Nat) : Int) := b_or _ 12288 (by omega) (by decide)
 have e3 : bits .and .i64 (n : Int) 4095 = ((n &&& 4095 : Nat) : Int) := b_and n 4095 (by omega) (by decide)
 have l2 : wout n 4194303 ||| 12288 < 4294967296 := nat_or_lt _ _ 32 (by omega) (by decide)
 have l3 : n &&& 4095 <= 4095 := Nat.and_le_right
 have e4 := b_or (wout n 4194303 ||| 12288) (n &&& 4095) (by omega) (by omega)
 have l4 : (wout n 4194303 ||| 12288) ||| (n &&& 4095) < 4294967296 := nat_or_lt _ _ 32 l2 (by omega)
 have m4 : ((wout n 4194303 ||| 12288) ||| (n &&& 4095)) % 4 = 0 := by
  have b0 := bit_orN (wout n 4194303 ||| 12288) (n &&& 4095) 0
  have b1 := bit_orN (wout n 4194303 ||| 12288) (n &&& 4095) 1
  have c0 := bit_andN n 4095 0
  have c1 := bit_andN n 4095 1
  have d0 := bit_orN (wout n 4194303) 12288 0
  have d1 := bit_orN (wout n 4194303) 12288 1
  have f0 := bit_woutN n 4194303 0
  have f1 := bit_woutN n 4194303 1
  simp at b0 b1 c0 c1 d0 d1 f0 f1
  have g0 : n % 2 = 0 := by omega
  have g1 : n / 2 % 2 = 0 := by omega
  rw [g1] at c1
  simp [g0, d0, f0] at b0
  simp [c1, d1, f1] at b1
  omega
 exact ⟨_, by omega, m4, by rw [e1, e2, e3, e4]⟩
theorem k_regS (mb rb : Nat) (X : XS) (i : Int) (w : World) (hw : XAt w mb rb X) : CS 91 #[.pointer (some ⟨mb, 0, none⟩), .int .i64 i] (.int .i64 (regU X.x i).1) w := by
 have R := hide1 (ux_Reg mb rb X i w hw)
 generalize (regU X.x i).1 = a at R |-
 generalize (regU X.x i).2 = b at R
 go_enter func91, ntmps91
 go_wp2_with fail
 refine R.out.mono ?_
 rintro o w1 ⟨rfl, hw1⟩
 rw [hw1]
 exact zq206
theorem mask_any (a : Int) : bits .and .i64 a 4294967295 = (wordN a : Int) := by
 have := and_any a 4294967295 (by decide)
 rw [show ((4294967295 : Nat) : Int) = 4294967295 from rfl] at this
 rw [this, show (4294967295 : Nat) = 2 ^ 32 - 1 from rfl, Nat.and_two_pow_sub_one_eq_mod]
 unfold wordN; omega
theorem mask_nat (V : Nat) : bits .and .i64 (V : Int) 4294967295 = ((V % 4294967296 : Nat) : Int) := by
 rw [mask_any]; unfold wordN; omega
def RegG (mb : Nat) (w : World) (g : Int -> Int) : Prop := ∀ i, CS 91 #[.pointer (some ⟨mb, 0, none⟩), .int .i64 i] (.int .i64 (g i)) w
theorem min_ways (A B : Nat) (hA : A < 4294967296) (hB : B < 4294967296) : (alu_min A B = A /\ alu_max A B = B /\ decide (sgn A <= sgn B) = true) \/ (alu_min A B = B /\ alu_max A B = A /\ decide (sgn B <= sgn A) = true) := by
 unfold alu_min alu_max
 by_cases h : sgn A < sgn B
 . exact .inl ⟨if_pos h, if_neg (by omega), decide_eq_true (by omega)⟩
 . by_cases h2 : sgn B < sgn A
   . exact .inr ⟨if_neg h, if_pos h2, decide_eq_true (by omega)⟩
   . have e : A = B := by unfold sgn at h h2; split at h <;> split at h <;> split at h2 <;> omega
     rw [if_neg h, if_neg h2]
     exact .inl ⟨e.symm, rfl, decide_eq_true (by omega)⟩
theorem minu_ways (A B : Nat) : (alu_minu A B = A /\ alu_maxu A B = B /\ decide ((A : Int) <= (B : Int)) = true) \/ (alu_minu A B = B /\ alu_maxu A B = A /\ decide ((B : Int) <= (A : Int)) = true) := by
 unfold alu_minu alu_maxu
 by_cases h : A < B
 . exact .inl ⟨if_pos h, by split <;> omega, decide_eq_true (by omega)⟩
 . exact .inr ⟨if_neg h, by split <;> omega, decide_eq_true (by omega)⟩
theorem amo_eqs (A B : Nat) (hA : A < 4294967296) (hB : B < 4294967296) : wrap64 ((A : Int) + (B : Int)) = ((A + B : Nat) : Int) /\ wrap64 ((B : Int) + (A : Int)) = ((A + B : Nat) : Int) /\ bits .and .i64 ((A + B : Nat) : Int) 4294967295 = ((alu 53 A B : Nat) : Int) /\ bits .xor .i64 (A : Int) (B : Int) = ((alu 54 A B : Nat) : Int) /\ bits .and .i64 (A : Int) (B : Int) = ((alu 55 A B : Nat) : Int) /\ bits .or .i64 (A : Int) (B : Int) = ((alu 56 A B : Nat) : Int) :=
 ⟨by unfold wrap64; omega, by unfold wrap64; omega, mask_nat (A + B), b_xor A B (by omega) (by omega), b_and A B (by omega) (by omega), b_or A B (by omega) (by omega)⟩
set_option maxRecDepth 100000 in
theorem k_amosS (a b : Int) (w : World) : CK 49 #[.int .i64 a, .int .i64 b] (.bool true) w := by
 have HA := mask_any a
 have HB := mask_any b
 have hA : wordN a < 4294967296 := by unfold wordN; omega
 have hB : wordN b < 4294967296 := by unfold wordN; omega
 go_enter func49, ntmps49
 go_wp2_with fail
 refine (k_builtS amoC (by decide) _ (by kernel_rfl) a b w).mono ?_
 rintro o w1 ⟨⟨mb, rb, X, rfl, hm⟩, hkp⟩
 obtain ⟨Y, r1, r2⟩ := amo_run a b X hm.qu hm.res hm.sc _ _ rfl rfl hA hB
 have RN := hide1 (x_Run mb rb X hm.inv 30 (by decide) w1 (hide1 hm.xat))
 simp only [r1] at RN
 have l1 := hm.l1
 have l2 := hm.l2
 have K1 := hide1 hkp
 clear hm hkp r1
 generalize wordN a = A at *
 generalize wordN b = B at *
 obtain ⟨g, hg⟩ := zn1 (fun i => (regU Y.x i).1 : Int -> Int)
 have RG : Hid (∀ W, XAt W mb rb Y -> RegG mb W g) := hide1 (fun W hW i => by rw [hg]; exact k_regS mb rb Y i W hW)
 have gv : ∀ i : Nat, i < 32 -> g i = ((Y.x.getD i 0 : Nat) : Int) := zq139
 rw [r2] at gv
 have g4 : g 4 = (B : Nat) := gv 4 (by decide)
 have g6 : g 6 = (alu 53 A B : Nat) := gv 6 (by decide)
 have g8 : g 8 = (alu 54 A B : Nat) := gv 8 (by decide)
 have g10 : g 10 = (alu 55 A B : Nat) := gv 10 (by decide)
 have g12 : g 12 = (alu 56 A B : Nat) := gv 12 (by decide)
 have g14 : g 14 = (alu_min A B : Nat) := gv 14 (by decide)
 have g16 : g 16 = (alu_max A B : Nat) := gv 16 (by decide)
 have g18 : g 18 = (alu_minu A B : Nat) := gv 18 (by decide)
 have g20 : g 20 = (alu_maxu A B : Nat) := gv 20 (by decide)
 have GO : Hid (∀ i j : Nat, i = 3 + 2 * j -> i < 20 -> g (i : Int) = (A : Nat)) := hide1 (fun i j e h => by
  rcases (show j = 0 \/ j = 1 \/ j = 2 \/ j = 3 \/ j = 4 \/ j = 5 \/ j = 6 \/ j = 7 \/ j = 8 by omega) with rfl | rfl | rfl | rfl | rfl | rfl | rfl | rfl | rfl <;> subst e
  . exact gv 3 (by decide)
  . exact gv 5 (by decide)
  . exact gv 7 (by decide)
  . exact gv 9 (by decide)
  . exact gv 11 (by decide)
  . exact gv 13 (by decide)
  . exact gv 15 (by decide)
  . exact gv 17 (by decide)
  . exact gv 19 (by decide))
 obtain ⟨q1, q2, q3, q4, q5, q6⟩ := amo_eqs A B hA hB
 have W1 := hide1 (min_ways A B hA hB)
 have W2 := hide1 (minu_ways A B)
 have MA := hide1 (fun W => k_minus (A : Int) (Int.natCast_nonneg _) (Int.ofNat_lt.2 hA) W)
 have MB := hide1 (fun W => k_minus (B : Int) (Int.natCast_nonneg _) (Int.ofNat_lt.2 hB) W)
 generalize alu 53 A B = u1 at *
 generalize alu 54 A B = u2 at *
 generalize alu 55 A B = u3 at *
 generalize alu 56 A B = u4 at *
 generalize alu_min A B = mn at *
 generalize alu_max A B = mx at *
 generalize alu_minu A B = nu at *
 generalize alu_maxu A B = xu at *
 generalize ((A + B : Nat) : Int) = c at *
 generalize sgn (A : Int) = sa at *
 generalize sgn (B : Int) = sb at *
 clear gv hg r2 hA hB
 go_wp2_with fail
 refine RN.out.mono ?_
 rintro o w2 ⟨rfl, hx, hkq⟩
 have K2 := hide1 (kept_new K1.out hkq l1 l2)
 have G2 := hide1 (RG.out w2 hx)
 clear hx hkq K1 RN RG
 go_wp2_with fail
 go_loopw [8] (fun c wr => ∃ i : Nat, (∃ j, i = 3 + 2 * j) /\ i <= 21 /\ c = .int .i64 i /\ wr = w2) (fun c _ => 30 - (intOf c).toNat)
 case atStart => exact ⟨3, ⟨0, rfl⟩, by omega, rfl, rfl⟩
 case round =>
  obtain ⟨i, ⟨j, hj⟩, hi, rfl, rfl⟩ := hrel
  by_cases hlt : i < 20
  . have hlt' : decide ((i : Int) < 20) = true := by simp; omega
    have gi := GO.out i j hj hlt
    have HJ := hide1 hj
    clear hj
    go_wp2_with (go_at_call 91; refine (G2.out _).mono ?_; rintro o wq ⟨rfl, hwq⟩; rw [hwq]; clear hwq wq)
    go_roundw
    case rel => exact ⟨i + 2, ⟨j + 1, by have := HJ.out; omega⟩, by omega, by go_num, by first | rfl | trivial⟩
    case measure => exact zq187
  . have hlt' : decide ((i : Int) < 20) = false := by simp; omega
    clear hj
    rcases W1.out with ⟨rfl, rfl, s1⟩ | ⟨rfl, rfl, s1⟩ <;> rcases W2.out with ⟨rfl, rfl, s2⟩ | ⟨rfl, rfl, s2⟩ <;> clear W1 W2
    all_goals
     go_wp2_with (first | (go_at_call 91; refine (G2.out _).mono ?_; rintro o wq ⟨rfl, hwq⟩; rw [hwq]; clear hwq wq) | (go_at_call 98; refine (MA.out _).mono ?_; rintro o wq ⟨rfl, hwq⟩; rw [hwq]; clear hwq wq) | (go_at_call 98; refine (MB.out _).mono ?_; rintro o wq ⟨rfl, hwq⟩; rw [hwq]; clear hwq wq))
    all_goals
     go_ret
     refine ⟨congrArg (fun x => Ending.returned (Value.bool x)) ?_, K2.out⟩
     first | rfl | simpa using s2
set_option maxRecDepth 100000 in
theorem k_pairS (a b : Int) (w : World) : CK 50 #[.int .i64 a, .int .i64 b] (.bool true) w := by
 have HA := mask_any a
 have HB := mask_any b
 have hA : wordN a < 4294967296 := by unfold wordN; omega
 have hB : wordN b < 4294967296 := by unfold wordN; omega
 go_enter func50, ntmps50
 go_wp2_with fail
 refine (k_builtS parC (by decide) _ (by kernel_rfl) a b w).mono ?_
 rintro o w1 ⟨⟨mb, rb, X, rfl, hm⟩, hkp⟩
 obtain ⟨Y, r1, r2⟩ := par_run a b X hm.qu hm.res hm.sc _ _ rfl rfl
 have RN := hide1 (x_Run mb rb X hm.inv 13 (by decide) w1 (hide1 hm.xat))
 simp only [r1] at RN
 have l1 := hm.l1
 have l2 := hm.l2
 have K1 := hide1 hkp
 clear hm hkp r1
 generalize wordN a = A at *
 generalize wordN b = B at *
 obtain ⟨g, hg⟩ := zn1 (fun i => (regU Y.x i).1 : Int -> Int)
 have RG : Hid (∀ W, XAt W mb rb Y -> RegG mb W g) := hide1 (fun W hW i => by rw [hg]; exact k_regS mb rb Y i W hW)
 have gv : ∀ i : Nat, i < 32 -> g i = ((Y.x.getD i 0 : Nat) : Int) := zq139
 rw [r2] at gv
 have g3 : g 3 = 1 := gv 3 (by decide)
 have g4 : g 4 = (A : Nat) := gv 4 (by decide)
 have g5 : g 5 = 0 := gv 5 (by decide)
 have g6 : g 6 = 2147483648 := gv 6 (by decide)
 have g7 : g 7 = 1 := gv 7 (by decide)
 have g8 : g 8 = 2147483648 := gv 8 (by decide)
 have g9 : g 9 = 1 := gv 9 (by decide)
 have g10 : g 10 = 1 := gv 10 (by decide)
 have g11 : g 11 = 2147483648 := gv 11 (by decide)
 have g12 : g 12 = (B : Nat) := gv 12 (by decide)
 clear gv hg r2 hA hB
 go_wp2_with fail
 refine RN.out.mono ?_
 rintro o w2 ⟨rfl, hx, hkq⟩
 have K2 := hide1 (kept_new K1.out hkq l1 l2)
 have G2 := hide1 (RG.out w2 hx)
 clear hx hkq K1 RN RG
 go_wp2_with (go_at_call 91; refine (G2.out _).mono ?_; rintro o wq ⟨rfl, hwq⟩; rw [hwq]; clear hwq wq)
 go_ret
 exact ⟨rfl, K2.out⟩
end
end Go.Proofs.YtmlgonbhoknoiabGreatDoor
