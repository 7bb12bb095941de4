import Derived.Test.YthfofjkfbhahoaaGreatDoorProg
import Derived.WalkKit
import Derived.ProofKit
import Derived.OpenShut
import Derived.WalkLawsBesides
import Derived.Deep.Light
import Derived.Test.YthfofjkfbhahoaaGreatDoorXA
section
namespace Go.Proofs.YthfofjkfbhahoaaGreatDoor
open Go.RowKit
set_option linter.unusedSimpArgs false
theorem and_mask (x : Int) (n : Nat) (hn : n ≤ 62) : bits .and .i64 x ((2 ^ n - 1 : Nat) : Int) = x % 2 ^ n := by
  have e1 : ((2 : Int) ^ n) = ((2 ^ n : Nat) : Int) := by simp
  have hp : 2 ^ n ≤ 2 ^ 62 := Nat.pow_le_pow_right (by decide) hn
  have h62 : (2 : Nat) ^ 62 = 4611686018427387904 := by decide
  have h1 : 1 ≤ 2 ^ n := Nat.one_le_two_pow
  have ha : (BitVec.ofInt 64 x &&& BitVec.ofInt 64 ((2 ^ n - 1 : Nat) : Int)).toNat = (x % 2 ^ n).toNat := by
    rw [BitVec.toNat_and, BitVec.toNat_ofInt, BitVec.toNat_ofInt]
    have e2 : (((2 ^ n - 1 : Nat) : Int) % ((2 ^ 64 : Nat) : Int)).toNat = 2 ^ n - 1 := by
      rw [Int.emod_eq_of_lt (by omega) (by have : (2 : Nat) ^ 64 = 18446744073709551616 := by decide
                                           omega)]; omega
    rw [e2, Nat.and_two_pow_sub_one_eq_mod, e1]
    have hd : (2 ^ n : Nat) ∣ 2 ^ 64 := Nat.pow_dvd_pow 2 (by omega)
    have e3 : ((x % ((2 ^ 64 : Nat) : Int)).toNat : Int) = x % ((2 ^ 64 : Nat) : Int) := Int.toNat_of_nonneg (Int.emod_nonneg _ (by decide))
    have e4 : (((x % ((2 ^ 64 : Nat) : Int)).toNat % 2 ^ n : Nat) : Int) = x % ((2 ^ n : Nat) : Int) := by
      rw [Int.natCast_emod, e3]
      exact Int.emod_emod_of_dvd x (Int.natCast_dvd_natCast.2 hd)
    omega
  have hb : bits .and .i64 x ((2 ^ n - 1 : Nat) : Int) = IntKind.i64.wrap (((BitVec.ofInt 64 x &&& BitVec.ofInt 64 ((2 ^ n - 1 : Nat) : Int)).toNat : Nat) : Int) := rfl
  rw [hb, ha, IntKind.wrap_i64]
  have h2 : x % 2 ^ n < 2 ^ n := Int.emod_lt_of_pos _ (by rw [e1]; omega)
  have h3 : 0 ≤ x % 2 ^ n := Int.emod_nonneg _ (by rw [e1]; omega)
  rw [e1] at h2 h3 ⊢
  omega
theorem and_one (x : Int) : bits .and .i64 x 1 = x % 2 := and_mask x 1 (by decide)
theorem and_three (x : Int) : bits .and .i64 x 3 = x % 4 := and_mask x 2 (by decide)
set_option maxHeartbeats 400000 in
theorem i_isLet (c : UInt8) (w : World) :
    Calls Tryz.prog 160 #[.int .u8 (c.toNat : Int)] w fun e w' => e = .returned (.bool (Pic.isLet c)) ∧ w' = w := by
  by_cases h1 : (97 : Int) ≤ c.toNat
  · by_cases h2 : (c.toNat : Int) ≤ 122
    · go_enter Tryz.func160, Tryz.ntmps160
      go_wp2
      go_ret
      exact ⟨by rw [show Pic.isLet c = true by simp [Pic.isLet]; omega]; rfl, rfl⟩
    · go_enter Tryz.func160, Tryz.ntmps160
      go_wp2
      go_ret
      exact ⟨by rw [show Pic.isLet c = false by simp [Pic.isLet]; omega]; rfl, rfl⟩
  · go_enter Tryz.func160, Tryz.ntmps160
    go_wp2
    go_ret
    exact ⟨by rw [show Pic.isLet c = false by simp [Pic.isLet]; omega]; rfl, rfl⟩
theorem u8_eq {c : UInt8} {n : Nat} (hn : n < 256) : (c.toNat : Int) = n ↔ c = UInt8.ofNat n := by
  constructor
  · intro h; apply UInt8.toNat_inj.1; simp; omega
  · intro h; subst h; simp; omega
theorem okBit_of {c : UInt8} {x : Nat} {q : List UInt8} {t : Bool} (h : Hid (Pic.fits (c :: q) x = t)) : t = (Pic.okBit c (x % 2) && Pic.fits q (x / 2)) := h.out.symm
theorem okBit_0 {c : UInt8} {x : Nat} (h : (c.toNat : Int) = 48) : Pic.okBit c (x % 2) = !(x % 2 == 1) := by
  have : c = 48 := (u8_eq (n := 48) (by decide)).1 h
  subst this; simp [Pic.okBit]
theorem okBit_1 {c : UInt8} {x : Nat} (h : (c.toNat : Int) = 49) : Pic.okBit c (x % 2) = !(x % 2 == 0) := by
  have : c = 49 := (u8_eq (n := 49) (by decide)).1 h
  subst this; simp [Pic.okBit]
theorem okBit_x {c : UInt8} {x : Nat} (h : ¬ (c.toNat : Int) = 48) (h1 : ¬ (c.toNat : Int) = 49) : Pic.okBit c (x % 2) = true := by
  have a : c ≠ 48 := fun e => h ((u8_eq (n := 48) (by decide)).2 e)
  have b : c ≠ 49 := fun e => h1 ((u8_eq (n := 49) (by decide)).2 e)
  simp [Pic.okBit, a, b]
theorem rv_at (s : ByteArray) (i : Nat) (h : i < s.size) : Pic.rv s.data.toList (i + 1) = s[i] :: Pic.rv s.data.toList i := by
  rw [Pic.rv_succ _ _ (by simpa using h)]; rfl
set_option maxHeartbeats 1000000 in
theorem i_fixed (s : ByteArray) (hs : s.size ≤ 32) (W : Nat) (hW : W < 4294967296) (w : World) :
    Calls Tryz.prog 153 #[.string s, .int .i64 W] w fun e w' => e = .returned (.bool (Pic.fits (Pic.rv s.data.toList s.size) W)) ∧ w' = w := by
  go_enter Tryz.func153, Tryz.ntmps153
  go_wp2
  go_loop [1, 5] (fun y k => ∃ j x : Nat, j ≤ s.size ∧ x < 4294967296 ∧ k = .int .i64 ((j : Int) - 1) ∧ y = .int .i64 x ∧ Hid (Pic.fits (Pic.rv s.data.toList j) x = Pic.fits (Pic.rv s.data.toList s.size) W)) (fun _ k => (intOf k + 1).toNat)
  case atStart => exact ⟨s.size, W, Nat.le_refl _, hW, rfl, rfl, rfl⟩
  case round =>
    obtain ⟨j, x, hj, hx, rfl, rfl, hh⟩ := hrel
    cases j with
    | zero =>
      go_wp2
      go_ret
      exact ⟨by rw [← hh.out]; rfl, rfl⟩
    | succ i =>
      have e : ((i + 1 : Nat) : Int) - 1 = (i : Int) := by omega
      rw [e]
      have hi : i < s.size := by omega
      rw [rv_at s i hi] at hh
      have h1 := and_one (x : Int)
      go_wp2
      · go_ret
        have a : (s[i].toNat : Int) = 48 := by assumption
        have b : (x : Int) % 2 = 1 := by assumption
        exact ⟨by rw [okBit_of hh, okBit_0 a, show (x % 2 == 1) = true by simp; omega]; rfl, rfl⟩
      · have a : (s[i].toNat : Int) = 48 := by assumption
        have b : ¬ (x : Int) % 2 = 1 := by assumption
        go_round
        case rel => exact ⟨i, x / 2, by omega, by omega, by go_num, by go_num, by rw [okBit_of hh, okBit_0 a, show (x % 2 == 1) = false by simp; omega]; rfl⟩
        case measure => simp [intOf]
      · go_ret
        have a : (s[i].toNat : Int) = 49 := by assumption
        have b : ((x : Int) % 2 == 0) = true := by assumption
        rw [beq_iff_eq] at b
        exact ⟨by rw [okBit_of hh, okBit_1 a, show (x % 2 == 0) = true by simp; omega]; rfl, rfl⟩
      · have a : (s[i].toNat : Int) = 49 := by assumption
        have b : ((x : Int) % 2 == 0) = false := by assumption
        rw [beq_eq_false_iff_ne] at b
        go_round
        case rel => exact ⟨i, x / 2, by omega, by omega, by go_num, by go_num, by rw [okBit_of hh, okBit_1 a, show (x % 2 == 0) = false by simp; omega]; rfl⟩
        case measure => simp [intOf]
      · have a : ¬ (s[i].toNat : Int) = 48 := by assumption
        have b : ¬ (s[i].toNat : Int) = 49 := by assumption
        go_round
        case rel => exact ⟨i, x / 2, by omega, by omega, by go_num, by go_num, by rw [okBit_of hh, okBit_x a b]; rfl⟩
        case measure => simp [intOf]
theorem val_hit {m : UInt8 → Bool} {c : UInt8} {q : List UInt8} {x n t V C : Nat} (hm : m c = true) (h : Hid (n + t * Pic.val m (c :: q) x = V ∧ t * 2 ^ Pic.cnt m (c :: q) = C)) :
    Hid (n + x % 2 * t + (t * 2) * Pic.val m q (x / 2) = V ∧ (t * 2) * 2 ^ Pic.cnt m q = C) := by
  obtain ⟨h1, h2⟩ := h.out
  simp only [Pic.val, Pic.cnt, hm, cond_true, Nat.pow_add] at h1 h2
  refine ⟨?_, by rw [← h2, Nat.mul_assoc]⟩
  rw [← h1, Nat.mul_add, Nat.mul_assoc t 2, Nat.mul_comm (x % 2) t]; omega
theorem val_miss {m : UInt8 → Bool} {c : UInt8} {q : List UInt8} {x n t V C : Nat} (hm : m c = false) (h : Hid (n + t * Pic.val m (c :: q) x = V ∧ t * 2 ^ Pic.cnt m (c :: q) = C)) :
    Hid (n + t * Pic.val m q (x / 2) = V ∧ t * 2 ^ Pic.cnt m q = C) := by
  obtain ⟨h1, h2⟩ := h.out
  simp only [Pic.val, Pic.cnt, hm, cond_false] at h1 h2
  exact ⟨h1, h2⟩
theorem val_bd {m : UInt8 → Bool} {l : List UInt8} {q : List UInt8} {x n t V W : Nat} (hl : l.length ≤ 32) (hV : V = Pic.val m l W) (h : Hid (n + t * Pic.val m q x = V ∧ t * 2 ^ Pic.cnt m q = 2 ^ Pic.cnt m l)) : n < 4294967296 ∧ 1 ≤ t ∧ t ≤ 4294967296 := by
  obtain ⟨h1, h2⟩ := h.out
  have a := Pic.val_lt m l W
  have b := Pic.cnt_le m l
  have c : 2 ^ Pic.cnt m l ≤ 2 ^ 32 := Nat.pow_le_pow_right (by decide) (by omega)
  have d : (2 : Nat) ^ 32 = 4294967296 := by decide
  have e : 1 ≤ 2 ^ Pic.cnt m q := Nat.one_le_two_pow
  have f : t * 1 ≤ t * 2 ^ Pic.cnt m q := Nat.mul_le_mul_left _ e
  have g : 1 ≤ 2 ^ Pic.cnt m l := Nat.one_le_two_pow
  refine ⟨by omega, ?_, by omega⟩
  rcases Nat.eq_zero_or_pos t with h | h
  · subst h; omega
  · exact h
/-- the register that a picture draws with a letter -/
def regOf (s : ByteArray) (c : UInt8) (W : Nat) : Nat :=
  let l := Pic.rv s.data.toList s.size
  if Pic.cnt (· == c) l = 3 then Pic.val (· == c) l W + 8 else Pic.val (· == c) l W
theorem pow_3 {n : Nat} : 2 ^ n = 8 ↔ n = 3 := by
  constructor
  · intro h
    have : (2 : Nat) ^ n = 2 ^ 3 := h
    exact (Nat.pow_right_inj (by decide)).1 this
  · intro h; subst h; rfl
theorem reg_8 {s : ByteArray} {c : UInt8} {W V nn tt : Nat} (HV : Hid (Pic.val (· == c) (Pic.rv s.data.toList s.size) W = V)) (Q1 : Hid (nn = V))
    (Q2 : Hid (tt = 2 ^ Pic.cnt (· == c) (Pic.rv s.data.toList s.size))) (H3 : Hid (tt = 8)) : regOf s c W = nn + 8 := by
  unfold regOf
  rw [if_pos (pow_3.1 (by rw [← Q2.out]; exact H3.out)), HV.out, Q1.out]
theorem reg_n {s : ByteArray} {c : UInt8} {W V nn tt : Nat} (HV : Hid (Pic.val (· == c) (Pic.rv s.data.toList s.size) W = V)) (Q1 : Hid (nn = V))
    (Q2 : Hid (tt = 2 ^ Pic.cnt (· == c) (Pic.rv s.data.toList s.size))) (H3 : ¬ tt = 8) : regOf s c W = nn := by
  unfold regOf
  rw [if_neg (fun h => H3 (by rw [Q2.out]; exact pow_3.2 h)), HV.out, Q1.out]
set_option maxHeartbeats 1000000 in
theorem i_register (s : ByteArray) (hs : s.size ≤ 32) (c : UInt8) (W : Nat) (hW : W < 4294967296) (w : World) :
    Calls Tryz.prog 211 #[.string s, .int .u8 (c.toNat : Int), .int .i64 W] w fun e w' => e = .returned (.int .i64 (regOf s c W)) ∧ w' = w := by
  have hlen : (Pic.rv s.data.toList s.size).length ≤ 32 := by rw [Pic.rv_length _ _ (by simp)]; exact hs
  generalize hV : Pic.val (· == c) (Pic.rv s.data.toList s.size) W = V
  have HV : Hid (Pic.val (· == c) (Pic.rv s.data.toList s.size) W = V) := hV
  clear hV
  go_enter Tryz.func211, Tryz.ntmps211
  go_wp2
  go_loop [2, 7, 8, 9] (fun y n t k => ∃ j x nn tt : Nat, j ≤ s.size ∧ x < 4294967296 ∧ k = .int .i64 ((j : Int) - 1) ∧ y = .int .i64 x ∧ n = .int .i64 nn ∧ t = .int .i64 tt ∧
    Hid (nn + tt * Pic.val (· == c) (Pic.rv s.data.toList j) x = V ∧ tt * 2 ^ Pic.cnt (· == c) (Pic.rv s.data.toList j) = 2 ^ Pic.cnt (· == c) (Pic.rv s.data.toList s.size))) (fun _ _ _ k => (intOf k + 1).toNat)
  case atStart => exact ⟨s.size, W, 0, 1, Nat.le_refl _, hW, rfl, rfl, rfl, rfl, ⟨by rw [HV.out]; omega, by omega⟩⟩
  case round =>
    obtain ⟨j, x, nn, tt, hj, hx, rfl, rfl, rfl, rfl, hh⟩ := hrel
    obtain ⟨b1, b2, b3⟩ := val_bd hlen HV.out.symm hh
    cases j with
    | zero =>
      obtain ⟨q1, q2⟩ := hh.out
      simp only [Pic.rv_zero, Pic.val, Pic.cnt, Nat.mul_zero, Nat.add_zero, Nat.pow_zero, Nat.mul_one] at q1 q2
      have Q2 : Hid (tt = 2 ^ Pic.cnt (· == c) (Pic.rv s.data.toList s.size)) := q2
      have Q1 : Hid (nn = V) := q1
      clear q1 q2 hh
      by_cases h3 : tt = 8
      · have h4 : ((tt : Int) == 8) = true := by rw [beq_iff_eq]; omega
        have H3 : Hid (tt = 8) := h3
        clear h3
        go_wp2
        go_ret
        exact ⟨congrArg (fun z => Ending.returned (Value.int .i64 z)) (by rw [reg_8 HV Q1 Q2 H3]; omega), rfl⟩
      · have h4 : ((tt : Int) == 8) = false := by rw [beq_eq_false_iff_ne]; omega
        go_wp2
        go_ret
        exact ⟨congrArg (fun z => Ending.returned (Value.int .i64 z)) (by rw [reg_n HV Q1 Q2 h3]), rfl⟩
    | succ i =>
      have e : ((i + 1 : Nat) : Int) - 1 = (i : Int) := by omega
      rw [e]
      have hi : i < s.size := by omega
      rw [rv_at s i hi] at hh
      by_cases hc : s[i] = c
      · have hc' : (s[i].toNat : Int) == c.toNat := by rw [hc]; simp
        have hm : (fun z => z == c) s[i] = true := by simp [hc]
        have H2 := val_hit (m := (· == c)) (c := s[i]) hm hh
        have HC : Hid (s[i] = c) := hc
        clear hc hh hm
        have bb := (val_bd hlen HV.out.symm H2).1
        rcases Nat.mod_two_eq_zero_or_one x with hp | hp
        · have h1 : bits BinOp.and IntKind.i64 (x : Int) 1 = 0 := by rw [and_one]; omega
          rw [hp] at H2 bb
          have HP : Hid (x % 2 = 0) := hp
          clear hp
          go_wp2
          go_round
          case rel => exact ⟨i, x / 2, nn, tt * 2, by omega, by omega, by go_num, by go_num, by go_num, by go_num, by simpa using H2⟩
          case measure => simp [intOf]
        · have h1 : bits BinOp.and IntKind.i64 (x : Int) 1 = 1 := by rw [and_one]; omega
          rw [hp] at H2 bb
          have HP : Hid (x % 2 = 1) := hp
          clear hp
          go_wp2
          go_round
          case rel => exact ⟨i, x / 2, nn + tt, tt * 2, by omega, by omega, by go_num, by go_num, by go_num, by go_num, by simpa using H2⟩
          case measure => simp [intOf]
      · have hc' : ((s[i].toNat : Int) == c.toNat) = false := by
          rw [beq_eq_false_iff_ne]; intro h; exact hc (UInt8.toNat_inj.1 (by omega))
        have hm : (fun z => z == c) s[i] = false := by simp [hc]
        have H2 := val_miss (m := (· == c)) (c := s[i]) hm hh
        clear hc hh hm
        go_wp2
        go_round
        case rel => exact ⟨i, x / 2, nn, tt, by omega, by omega, by go_num, by go_num, by go_num, by go_num, H2⟩
        case measure => simp [intOf]
end Go.Proofs.YthfofjkfbhahoaaGreatDoor
end
section
namespace Go.Proofs.YthfofjkfbhahoaaGreatDoor
open Go.RowKit
set_option linter.unusedSimpArgs false
theorem sum_le : ∀ (q : List UInt8) (w : Nat), Pic.sum q w ≤ 33554432 * q.length
  | [], _ => by simp [Pic.sum]
  | x :: q, w => by
    have h := sum_le q (w / 2)
    simp only [Pic.sum, List.length_cons]
    cases hl : Pic.isLet x with
    | false => simp; omega
    | true =>
      simp only [Pic.isLet, Bool.and_eq_true, decide_eq_true_eq] at hl
      have h1 : 2 ^ (x.toNat - 97) ≤ 2 ^ 25 := Nat.pow_le_pow_right (by decide) (by omega)
      have h2 : w % 2 * 2 ^ (x.toNat - 97) ≤ 1 * 2 ^ (x.toNat - 97) := Nat.mul_le_mul_right _ (by omega)
      have h3 : (2 : Nat) ^ 25 = 33554432 := by decide
      simp only [cond_true]; omega
theorem high_le : ∀ (q : List UInt8), Pic.high q ≤ 33554432
  | [] => by simp [Pic.high]
  | x :: q => by
    have h := high_le q
    cases hl : Pic.isLet x with
    | false => simp only [Pic.high, hl, cond_false]; exact h
    | true =>
      simp only [Pic.high, hl, cond_true]
      simp only [Pic.isLet, Bool.and_eq_true, decide_eq_true_eq] at hl
      have h1 : 2 ^ (x.toNat - 97) ≤ 2 ^ 25 := Nat.pow_le_pow_right (by decide) (by omega)
      have h3 : (2 : Nat) ^ 25 = 33554432 := by decide
      omega
def immOf (s : ByteArray) (neg : Bool) (W : Nat) : Int := Pic.imm (Pic.rv s.data.toList s.size) neg W
theorem wrap_nat (p : Nat) (h : p ≤ 2147483648) : wrap64 (p : Int) = p := by unfold wrap64; omega
theorem wrap_add (a b : Nat) (h : a + b ≤ 2147483648) : wrap64 ((a : Int) + (b : Int)) = (a : Int) + b := by unfold wrap64; omega
theorem imm_hit {c : UInt8} {q : List UInt8} {x nn tt T H p : Nat} (hl : Pic.isLet c = true) (hp : Hid (p = 2 ^ (c.toNat - 97))) (h : Hid (nn + Pic.sum (c :: q) x = T ∧ max tt (Pic.high (c :: q)) = H)) :
    Hid (nn + x % 2 * p + Pic.sum q (x / 2) = T ∧ max (max tt p) (Pic.high q) = H) := by
  obtain ⟨h1, h2⟩ := h.out
  simp only [Pic.sum, Pic.high, hl, cond_true] at h1 h2
  rw [← hp.out] at h1 h2
  exact ⟨by omega, by omega⟩
theorem imm_miss {c : UInt8} {q : List UInt8} {x nn tt T H : Nat} (hl : Pic.isLet c = false) (h : Hid (nn + Pic.sum (c :: q) x = T ∧ max tt (Pic.high (c :: q)) = H)) :
    Hid (nn + Pic.sum q (x / 2) = T ∧ max tt (Pic.high q) = H) := by
  obtain ⟨h1, h2⟩ := h.out
  simp only [Pic.sum, Pic.high, hl, cond_false, Nat.zero_add] at h1 h2
  exact ⟨h1, h2⟩
theorem pow_wrap {n : Nat} (h : n ≤ 25) : wrap64 (2 ^ n) = ((2 ^ n : Nat) : Int) ∧ 2 ^ n ≤ 33554432 ∧ 1 ≤ 2 ^ n := by
  have h1 : 2 ^ n ≤ 2 ^ 25 := Nat.pow_le_pow_right (by decide) h
  have h3 : (2 : Nat) ^ 25 = 33554432 := by decide
  have h4 : 1 ≤ 2 ^ n := Nat.one_le_two_pow
  have e1 : ((2 : Int) ^ n) = ((2 ^ n : Nat) : Int) := by simp
  refine ⟨?_, by omega, h4⟩
  rw [e1]; unfold wrap64; omega
set_option maxHeartbeats 2000000 in
theorem i_immediate (s : ByteArray) (hs : s.size ≤ 32) (neg : Bool) (W : Nat) (hW : W < 4294967296) (w : World) :
    Calls Tryz.prog 214 #[.string s, .bool neg, .int .i64 W] w fun e w' => e = .returned (.int .i64 (immOf s neg W)) ∧ w' = w := by
  obtain ⟨T, hT⟩ : ∃ T, T = Pic.sum (Pic.rv s.data.toList s.size) W := ⟨_, rfl⟩
  obtain ⟨H, hH⟩ : ∃ H, H = Pic.high (Pic.rv s.data.toList s.size) := ⟨_, rfl⟩
  have bT : T ≤ 1073741824 := by
    have := sum_le (Pic.rv s.data.toList s.size) W
    rw [Pic.rv_length _ _ (by simp), ← hT] at this
    omega
  have bH : H ≤ 33554432 := by rw [hH]; exact high_le _
  have HI : Hid (immOf s neg W = if neg = true ∧ H ≤ T then (T : Int) - 2 * (H : Int) else (T : Int)) := by rw [hT, hH]; rfl
  have HT : Hid (T = Pic.sum (Pic.rv s.data.toList s.size) W) := hT
  have HH : Hid (H = Pic.high (Pic.rv s.data.toList s.size)) := hH
  clear hT hH
  go_enter Tryz.func214, Tryz.ntmps214
  go_wp2
  go_loop [2, 7, 8, 9] (fun y n t k => ∃ j x nn tt : Nat, j ≤ s.size ∧ x < 4294967296 ∧ k = .int .i64 ((j : Int) - 1) ∧ y = .int .i64 x ∧ n = .int .i64 nn ∧ t = .int .i64 tt ∧
    Hid (nn + Pic.sum (Pic.rv s.data.toList j) x = T ∧ max tt (Pic.high (Pic.rv s.data.toList j)) = H)) (fun _ _ _ k => (intOf k + 1).toNat)
  case atStart => exact ⟨s.size, W, 0, 0, Nat.le_refl _, hW, rfl, rfl, rfl, rfl, ⟨by rw [← HT.out]; omega, by rw [← HH.out]; omega⟩⟩
  case round =>
    obtain ⟨j, x, nn, tt, hj, hx, rfl, rfl, rfl, rfl, hh⟩ := hrel
    have b1 : nn ≤ 1073741824 := by have := hh.out.1; omega
    have b2 : tt ≤ 33554432 := by have := hh.out.2; omega
    cases j with
    | zero =>
      obtain ⟨q1, q2⟩ := hh.out
      simp only [Pic.rv_zero, Pic.sum, Pic.high, Nat.add_zero, Nat.max_zero] at q1 q2
      subst q1
      subst q2
      clear hh
      cases neg with
      | false =>
        go_wp2
        go_ret
        exact ⟨congrArg (fun z => Ending.returned (Value.int .i64 z)) (by rw [HI.out]; simp), rfl⟩
      | true =>
        by_cases hge : tt ≤ nn
        · go_wp2
          go_ret
          exact ⟨congrArg (fun z => Ending.returned (Value.int .i64 z)) (by rw [HI.out, if_pos (by simpa using hge)]), rfl⟩
        · have hge' : decide ((tt : Int) ≤ nn) = false := by rw [decide_eq_false_iff_not]; omega
          go_wp2
          go_ret
          exact ⟨congrArg (fun z => Ending.returned (Value.int .i64 z)) (by rw [HI.out, if_neg (fun h => hge h.2)]), rfl⟩
    | succ i =>
      have e : ((i + 1 : Nat) : Int) - 1 = (i : Int) := by omega
      rw [e]
      have hi : i < s.size := by omega
      rw [rv_at s i hi] at hh
      by_cases hl : Pic.isLet s[i] = true
      · have c1 : 97 ≤ s[i].toNat ∧ s[i].toNat ≤ 122 := by simpa [Pic.isLet] using hl
        obtain ⟨c1, c2⟩ := c1
        obtain ⟨hw1, hw2, hw3⟩ := pow_wrap (n := s[i].toNat - 97) (by omega)
        obtain ⟨p, hp⟩ : ∃ p, p = 2 ^ (s[i].toNat - 97) := ⟨_, rfl⟩
        rw [← hp] at hw1 hw2 hw3
        have HP : Hid (p = 2 ^ (s[i].toNat - 97)) := hp
        clear hp
        have H2 := imm_hit hl HP hh
        have b3 : nn + x % 2 * p ≤ 1073741824 := by have := H2.out.1; omega
        have hwp := wrap_nat p (Nat.le_trans hw2 (by decide))
        have HW1 : Hid (wrap64 (2 ^ (s[i].toNat - 97)) = (p : Int)) := hw1
        have HWP : Hid (wrap64 (p : Int) = p) := hwp
        clear hwp hw1
        clear hh
        rcases Nat.mod_two_eq_zero_or_one x with hm | hm
        · have h1 : bits BinOp.and IntKind.i64 (x : Int) 1 = 0 := by rw [and_one]; omega
          rw [hm] at H2 b3
          have HM : Hid (x % 2 = 0) := hm
          clear hm
          go_wp2_with (go_at_call 160; refine (i_isLet _ _).mono ?_; rintro e w' ⟨rfl, rfl⟩)
          · have hgt : (tt : Int) < wrap64 (2 ^ (s[i].toNat - 97)) := by assumption
            rw [HW1.out] at hgt
            have hgt' : tt ≤ p := by omega
            go_round
            case rel => exact ⟨i, x / 2, nn, p, by omega, by omega, by go_num, by go_num, rfl, congrArg (Value.int .i64) HW1.out, by simpa [Nat.max_eq_right hgt'] using H2⟩
            case measure => simp [intOf]
          · have hgt : wrap64 (2 ^ (s[i].toNat - 97)) ≤ (tt : Int) := by assumption
            rw [HW1.out] at hgt
            have hgt' : p ≤ tt := by omega
            go_round
            case rel => exact ⟨i, x / 2, nn, tt, by omega, by omega, by go_num, by go_num, rfl, rfl, by simpa [Nat.max_eq_left hgt'] using H2⟩
            case measure => simp [intOf]
        · have h1 : bits BinOp.and IntKind.i64 (x : Int) 1 = 1 := by rw [and_one]; omega
          rw [hm] at H2 b3
          have HM : Hid (x % 2 = 1) := hm
          clear hm
          have hwn := wrap_add nn p (Nat.le_trans (by simpa using b3) (by decide))
          have HWN : Hid (wrap64 ((nn : Int) + (p : Int)) = (nn : Int) + p) := hwn
          clear hwn
          go_wp2_with (go_at_call 160; refine (i_isLet _ _).mono ?_; rintro e w' ⟨rfl, rfl⟩)
          · have hgt : (tt : Int) < wrap64 (2 ^ (s[i].toNat - 97)) := by assumption
            rw [HW1.out] at hgt
            have hgt' : tt ≤ p := by omega
            go_round
            case rel => exact ⟨i, x / 2, nn + p, p, by omega, by omega, by go_num, by go_num, congrArg (Value.int .i64) (by first | rw [HW1.out, HWP.out, HWN.out, Int.natCast_add] | rw [HW1.out, HWN.out, Int.natCast_add]), congrArg (Value.int .i64) HW1.out, by simpa [Nat.max_eq_right hgt'] using H2⟩
            case measure => simp [intOf]
          · have hgt : wrap64 (2 ^ (s[i].toNat - 97)) ≤ (tt : Int) := by assumption
            rw [HW1.out] at hgt
            have hgt' : p ≤ tt := by omega
            go_round
            case rel => exact ⟨i, x / 2, nn + p, tt, by omega, by omega, by go_num, by go_num, congrArg (Value.int .i64) (by first | rw [HW1.out, HWP.out, HWN.out, Int.natCast_add] | rw [HW1.out, HWN.out, Int.natCast_add]), rfl, by simpa [Nat.max_eq_left hgt'] using H2⟩
            case measure => simp [intOf]
      · have hl : Pic.isLet s[i] = false := by simpa using hl
        have H2 := imm_miss hl hh
        clear hh
        go_wp2_with (go_at_call 160; refine (i_isLet _ _).mono ?_; rintro e w' ⟨rfl, rfl⟩)
        go_round
        case rel => exact ⟨i, x / 2, nn, tt, by omega, by omega, by go_num, by go_num, by go_num, by go_num, H2⟩
        case measure => simp [intOf]
end Go.Proofs.YthfofjkfbhahoaaGreatDoor
end
section
namespace Go.Proofs.YthfofjkfbhahoaaGreatDoor
open Go.RowKit
set_option linter.unusedSimpArgs false
/-- what a round of 'draw' does, by the letter -/
theorem draw_one {q : List UInt8} {acc tt T : Nat} {c : UInt8} {rd rs1 rs2 im : Int} (hc : (c.toNat : Int) = 49)
    (h : Hid (acc + tt * Pic.draw (c :: q) rd rs1 rs2 im = T)) : Hid (acc + tt + (tt * 2) * Pic.draw q rd rs1 rs2 im = T) := by
  have e : c = 49 := (u8_eq (n := 49) (by decide)).1 hc
  have h1 := h.out
  simp only [Pic.draw, if_pos e] at h1
  show _ = _
  rw [← h1, Nat.mul_add, Nat.mul_assoc]; omega
theorem draw_rd {q : List UInt8} {acc tt T b : Nat} {c : UInt8} {rd rs1 rs2 im : Int} (hc : (c.toNat : Int) = 68 ∨ (c.toNat : Int) = 66) (hb : rd % 2 = b)
    (h : Hid (acc + tt * Pic.draw (c :: q) rd rs1 rs2 im = T)) : Hid (acc + b * tt + (tt * 2) * Pic.draw q (rd / 2) rs1 rs2 im = T) := by
  have e : c = 68 ∨ c = 66 := hc.imp (u8_eq (n := 68) (by decide)).1 (u8_eq (n := 66) (by decide)).1
  have n1 : ¬ c = 49 := by rcases e with e | e <;> subst e <;> decide
  have h1 := h.out
  simp only [Pic.draw, if_neg n1, if_pos e] at h1
  show _ = _
  rw [← h1, Nat.mul_add, Nat.mul_assoc, hb, Int.toNat_natCast, Nat.mul_comm b tt]; omega
theorem draw_rs1 {q : List UInt8} {acc tt T b : Nat} {c : UInt8} {rd rs1 rs2 im : Int} (hc : (c.toNat : Int) = 83) (hb : rs1 % 2 = b)
    (h : Hid (acc + tt * Pic.draw (c :: q) rd rs1 rs2 im = T)) : Hid (acc + b * tt + (tt * 2) * Pic.draw q rd (rs1 / 2) rs2 im = T) := by
  have e : c = 83 := (u8_eq (n := 83) (by decide)).1 hc
  subst e
  have h1 := h.out
  simp only [Pic.draw, if_neg (show ¬ ((83 : UInt8) = 49) by decide), if_neg (show ¬ ((83 : UInt8) = 68 ∨ (83 : UInt8) = 66) by decide), if_true] at h1
  show _ = _
  rw [← h1, Nat.mul_add, Nat.mul_assoc, hb, Int.toNat_natCast, Nat.mul_comm b tt]; omega
theorem draw_rs2 {q : List UInt8} {acc tt T b : Nat} {c : UInt8} {rd rs1 rs2 im : Int} (hc : (c.toNat : Int) = 84) (hb : rs2 % 2 = b)
    (h : Hid (acc + tt * Pic.draw (c :: q) rd rs1 rs2 im = T)) : Hid (acc + b * tt + (tt * 2) * Pic.draw q rd rs1 (rs2 / 2) im = T) := by
  have e : c = 84 := (u8_eq (n := 84) (by decide)).1 hc
  subst e
  have h1 := h.out
  simp only [Pic.draw, if_neg (show ¬ ((84 : UInt8) = 49) by decide), if_neg (show ¬ ((84 : UInt8) = 68 ∨ (84 : UInt8) = 66) by decide), if_neg (show ¬ ((84 : UInt8) = 83) by decide), if_true] at h1
  show _ = _
  rw [← h1, Nat.mul_add, Nat.mul_assoc, hb, Int.toNat_natCast, Nat.mul_comm b tt]; omega
theorem let_not {c : UInt8} (hl : Pic.isLet c = true) : ¬ c = 49 ∧ ¬ (c = 68 ∨ c = 66) ∧ ¬ c = 83 ∧ ¬ c = 84 := by
  refine ⟨?_, ?_, ?_, ?_⟩
  · intro e; subst e; revert hl; decide
  · rintro (e | e) <;> subst e <;> revert hl <;> decide
  · intro e; subst e; revert hl; decide
  · intro e; subst e; revert hl; decide
theorem draw_imm {q : List UInt8} {acc tt T b : Nat} {c : UInt8} {rd rs1 rs2 im : Int} (hl : Pic.isLet c = true) (hb : im / 2 ^ (c.toNat - 97) % 2 = b)
    (h : Hid (acc + tt * Pic.draw (c :: q) rd rs1 rs2 im = T)) : Hid (acc + b * tt + (tt * 2) * Pic.draw q rd rs1 rs2 im = T) := by
  obtain ⟨n1, n2, n3, n4⟩ := let_not hl
  have h1 := h.out
  simp only [Pic.draw, if_neg n1, if_neg n2, if_neg n3, if_neg n4, if_pos hl] at h1
  show _ = _
  rw [← h1, Nat.mul_add, Nat.mul_assoc, hb, Int.toNat_natCast, Nat.mul_comm b tt]; omega
theorem draw_none {q : List UInt8} {acc tt T : Nat} {c : UInt8} {rd rs1 rs2 im : Int} (h1 : ¬ (c.toNat : Int) = 49) (h2 : ¬ (c.toNat : Int) = 68) (h3 : ¬ (c.toNat : Int) = 66) (h4 : ¬ (c.toNat : Int) = 83) (h5 : ¬ (c.toNat : Int) = 84) (hl : Pic.isLet c = false)
    (h : Hid (acc + tt * Pic.draw (c :: q) rd rs1 rs2 im = T)) : Hid (acc + (tt * 2) * Pic.draw q rd rs1 rs2 im = T) := by
  have n1 : ¬ c = 49 := fun e => h1 ((u8_eq (n := 49) (by decide)).2 e)
  have n2 : ¬ (c = 68 ∨ c = 66) := by
    rintro (e | e)
    · exact h2 ((u8_eq (n := 68) (by decide)).2 e)
    · exact h3 ((u8_eq (n := 66) (by decide)).2 e)
  have n3 : ¬ c = 83 := fun e => h4 ((u8_eq (n := 83) (by decide)).2 e)
  have n4 : ¬ c = 84 := fun e => h5 ((u8_eq (n := 84) (by decide)).2 e)
  have g := h.out
  simp only [Pic.draw, if_neg n1, if_neg n2, if_neg n3, if_neg n4, hl, Bool.false_eq_true, if_false] at g
  show _ = _
  rw [← g, Nat.mul_assoc]
theorem half_bit (y : Int) : ∃ b : Nat, b ≤ 1 ∧ y % 2 = b := ⟨(y % 2).toNat, by omega, by omega⟩
set_option maxHeartbeats 2000000 in
theorem i_draw (s : ByteArray) (hs : s.size ≤ 32) (op rd rs1 rs2 im ln : Int) (w : World) :
    Calls Tryz.prog 111 #[.string s, .agg #[.int .i64 op, .int .i64 rd, .int .i64 rs1, .int .i64 rs2, .int .i64 im, .int .i64 ln]] w fun e w' =>
      e = .returned (.int .i64 (Pic.draw (Pic.rv s.data.toList s.size) rd rs1 rs2 im)) ∧ Below w.heap.size w w' := by
  obtain ⟨T, hT⟩ : ∃ T, T = Pic.draw (Pic.rv s.data.toList s.size) rd rs1 rs2 im := ⟨_, rfl⟩
  have bT : T < 4294967296 := by
    have h := Pic.draw_lt (Pic.rv s.data.toList s.size) rd rs1 rs2 im
    rw [Pic.rv_length _ _ (by simp), ← hT] at h
    have c : 2 ^ s.size ≤ 2 ^ 32 := Nat.pow_le_pow_right (by decide) hs
    have d : (2 : Nat) ^ 32 = 4294967296 := by decide
    omega
  rw [← hT]
  have HT : Hid (T = Pic.draw (Pic.rv s.data.toList s.size) rd rs1 rs2 im) := hT
  clear hT
  go_enter Tryz.func111, Tryz.ntmps111
  go_wp2
  go_loop [5, 6, 7, 8, 9, 10] (fun a t d r1 r2 k => ∃ (j acc tt : Nat) (yd y1 y2 : Int), j ≤ s.size ∧ k = .int .i64 ((j : Int) - 1) ∧ a = .int .i64 acc ∧ t = .int .i64 tt ∧ d = .int .i64 yd ∧ r1 = .int .i64 y1 ∧ r2 = .int .i64 y2 ∧ tt ≤ 4294967296 ∧
    Hid (tt * 2 ^ j = 2 ^ s.size) ∧ Hid (acc + tt * Pic.draw (Pic.rv s.data.toList j) yd y1 y2 im = T)) (fun _ _ _ _ _ k => (intOf k + 1).toNat)
  case atStart => exact ⟨s.size, 0, 1, rd, rs1, rs2, Nat.le_refl _, rfl, rfl, rfl, rfl, rfl, rfl, by omega, (by omega : 1 * 2 ^ s.size = 2 ^ s.size), (by rw [← HT.out]; omega : 0 + 1 * Pic.draw (Pic.rv s.data.toList s.size) rd rs1 rs2 im = T)⟩
  case round =>
    obtain ⟨j, acc, tt, yd, y1, y2, hj, rfl, rfl, rfl, rfl, rfl, rfl, b2, ht, hh⟩ := hrel
    have b1 : acc < 4294967296 := by have := hh.out; omega
    cases j with
    | zero =>
      have q := hh.out
      simp only [Pic.rv_zero, Pic.draw, Nat.mul_zero, Nat.add_zero] at q
      subst q
      go_wp2
      go_ret
      exact ⟨rfl, (Below.refl _ _).alloc (Nat.le_refl _) _⟩
    | succ i =>
      have e : ((i + 1 : Nat) : Int) - 1 = (i : Int) := by omega
      rw [e]
      have hi : i < s.size := by omega
      rw [rv_at s i hi] at hh
      have ht' : tt * 2 * 2 ^ i = 2 ^ s.size := by rw [Nat.mul_assoc, ← Nat.pow_succ']; exact ht.out
      have b3 : tt * 2 ≤ 4294967296 := by
        have c : 2 ^ s.size ≤ 2 ^ 32 := Nat.pow_le_pow_right (by decide) hs
        have d : (2 : Nat) ^ 32 = 4294967296 := by decide
        have e : 1 ≤ 2 ^ i := Nat.one_le_two_pow
        have f : tt * 2 * 1 ≤ tt * 2 * 2 ^ i := Nat.mul_le_mul_left _ e
        omega
      have HTT : Hid (tt * 2 * 2 ^ i = 2 ^ s.size) := ht'
      clear ht' ht
      by_cases c1 : (s[i].toNat : Int) = 49
      · have H2 := draw_one c1 hh
        have b4 : acc + tt < 4294967296 := by have := H2.out; omega
        have C1 : ((s[i].toNat : Int) == 49) = true := by rw [beq_iff_eq]; exact c1
        have c1' : Hid ((s[i].toNat : Int) = 49) := c1
        clear c1 hh
        go_wp2
        go_round
        case rel => exact ⟨i, acc + tt, tt * 2, yd, y1, y2, by omega, by go_num, by go_num, by go_num, rfl, rfl, rfl, b3, HTT, H2⟩
        case measure => simp [intOf]
      · have C49 : ((s[i].toNat : Int) == 49) = false := by rw [beq_eq_false_iff_ne]; exact c1
        by_cases c68 : (s[i].toNat : Int) = 68
        · have C68 : ((s[i].toNat : Int) == 68) = true := by rw [beq_iff_eq]; exact c68
          have hcl : (s[i].toNat : Int) = 68 ∨ (s[i].toNat : Int) = 66 := Or.inl c68
          clear c68 c1
          rcases Int.emod_two_eq yd with hb | hb
          · have H2 := draw_rd (b := 0) hcl hb hh
            have h1 : bits BinOp.and IntKind.i64 (yd) 1 = 0 := by rw [and_one]; exact hb
            have H3 : Hid (acc + (tt * 2) * Pic.draw (Pic.rv s.data.toList i) (yd / 2) y1 y2 im = T) := by simpa using H2
            have b4 : acc < 4294967296 := by have := H3.out; omega
            clear hb hh H2 hcl
            go_wp2
            go_round
            case rel => exact ⟨i, acc, tt * 2, yd / 2, y1, y2, by omega, by go_num, by go_num, by go_num, rfl, rfl, rfl, b3, HTT, H3⟩
            case measure => simp [intOf]
          · have H2 := draw_rd (b := 1) hcl hb hh
            have h1 : bits BinOp.and IntKind.i64 (yd) 1 = 1 := by rw [and_one]; exact hb
            have H3 : Hid (acc + tt + (tt * 2) * Pic.draw (Pic.rv s.data.toList i) (yd / 2) y1 y2 im = T) := by simpa using H2
            have b4 : acc + tt < 4294967296 := by have := H3.out; omega
            clear hb hh H2 hcl
            go_wp2
            go_round
            case rel => exact ⟨i, acc + tt, tt * 2, yd / 2, y1, y2, by omega, by go_num, by go_num, by go_num, rfl, rfl, rfl, b3, HTT, H3⟩
            case measure => simp [intOf]
        have C68 : ((s[i].toNat : Int) == 68) = false := by rw [beq_eq_false_iff_ne]; exact c68
        by_cases c66 : (s[i].toNat : Int) = 66
        · have C66 : ((s[i].toNat : Int) == 66) = true := by rw [beq_iff_eq]; exact c66
          have hcl : (s[i].toNat : Int) = 68 ∨ (s[i].toNat : Int) = 66 := Or.inr c66
          clear c68 c1 c66
          rcases Int.emod_two_eq yd with hb | hb
          · have H2 := draw_rd (b := 0) hcl hb hh
            have h1 : bits BinOp.and IntKind.i64 (yd) 1 = 0 := by rw [and_one]; exact hb
            have H3 : Hid (acc + (tt * 2) * Pic.draw (Pic.rv s.data.toList i) (yd / 2) y1 y2 im = T) := by simpa using H2
            have b4 : acc < 4294967296 := by have := H3.out; omega
            clear hb hh H2 hcl
            go_wp2
            go_round
            case rel => exact ⟨i, acc, tt * 2, yd / 2, y1, y2, by omega, by go_num, by go_num, by go_num, rfl, rfl, rfl, b3, HTT, H3⟩
            case measure => simp [intOf]
          · have H2 := draw_rd (b := 1) hcl hb hh
            have h1 : bits BinOp.and IntKind.i64 (yd) 1 = 1 := by rw [and_one]; exact hb
            have H3 : Hid (acc + tt + (tt * 2) * Pic.draw (Pic.rv s.data.toList i) (yd / 2) y1 y2 im = T) := by simpa using H2
            have b4 : acc + tt < 4294967296 := by have := H3.out; omega
            clear hb hh H2 hcl
            go_wp2
            go_round
            case rel => exact ⟨i, acc + tt, tt * 2, yd / 2, y1, y2, by omega, by go_num, by go_num, by go_num, rfl, rfl, rfl, b3, HTT, H3⟩
            case measure => simp [intOf]
        have C66 : ((s[i].toNat : Int) == 66) = false := by rw [beq_eq_false_iff_ne]; exact c66
        by_cases c83 : (s[i].toNat : Int) = 83
        · have C83 : ((s[i].toNat : Int) == 83) = true := by rw [beq_iff_eq]; exact c83
          have hcl := c83
          clear c68 c1 c66 c83
          rcases Int.emod_two_eq y1 with hb | hb
          · have H2 := draw_rs1 (b := 0) hcl hb hh
            have h1 : bits BinOp.and IntKind.i64 (y1) 1 = 0 := by rw [and_one]; exact hb
            have H3 : Hid (acc + (tt * 2) * Pic.draw (Pic.rv s.data.toList i) yd (y1 / 2) y2 im = T) := by simpa using H2
            have b4 : acc < 4294967296 := by have := H3.out; omega
            clear hb hh H2 hcl
            go_wp2
            go_round
            case rel => exact ⟨i, acc, tt * 2, yd, y1 / 2, y2, by omega, by go_num, by go_num, by go_num, rfl, rfl, rfl, b3, HTT, H3⟩
            case measure => simp [intOf]
          · have H2 := draw_rs1 (b := 1) hcl hb hh
            have h1 : bits BinOp.and IntKind.i64 (y1) 1 = 1 := by rw [and_one]; exact hb
            have H3 : Hid (acc + tt + (tt * 2) * Pic.draw (Pic.rv s.data.toList i) yd (y1 / 2) y2 im = T) := by simpa using H2
            have b4 : acc + tt < 4294967296 := by have := H3.out; omega
            clear hb hh H2 hcl
            go_wp2
            go_round
            case rel => exact ⟨i, acc + tt, tt * 2, yd, y1 / 2, y2, by omega, by go_num, by go_num, by go_num, rfl, rfl, rfl, b3, HTT, H3⟩
            case measure => simp [intOf]
        have C83 : ((s[i].toNat : Int) == 83) = false := by rw [beq_eq_false_iff_ne]; exact c83
        by_cases c84 : (s[i].toNat : Int) = 84
        · have C84 : ((s[i].toNat : Int) == 84) = true := by rw [beq_iff_eq]; exact c84
          have hcl := c84
          clear c68 c1 c66 c83 c84
          rcases Int.emod_two_eq y2 with hb | hb
          · have H2 := draw_rs2 (b := 0) hcl hb hh
            have h1 : bits BinOp.and IntKind.i64 (y2) 1 = 0 := by rw [and_one]; exact hb
            have H3 : Hid (acc + (tt * 2) * Pic.draw (Pic.rv s.data.toList i) yd y1 (y2 / 2) im = T) := by simpa using H2
            have b4 : acc < 4294967296 := by have := H3.out; omega
            clear hb hh H2 hcl
            go_wp2
            go_round
            case rel => exact ⟨i, acc, tt * 2, yd, y1, y2 / 2, by omega, by go_num, by go_num, by go_num, rfl, rfl, rfl, b3, HTT, H3⟩
            case measure => simp [intOf]
          · have H2 := draw_rs2 (b := 1) hcl hb hh
            have h1 : bits BinOp.and IntKind.i64 (y2) 1 = 1 := by rw [and_one]; exact hb
            have H3 : Hid (acc + tt + (tt * 2) * Pic.draw (Pic.rv s.data.toList i) yd y1 (y2 / 2) im = T) := by simpa using H2
            have b4 : acc + tt < 4294967296 := by have := H3.out; omega
            clear hb hh H2 hcl
            go_wp2
            go_round
            case rel => exact ⟨i, acc + tt, tt * 2, yd, y1, y2 / 2, by omega, by go_num, by go_num, by go_num, rfl, rfl, rfl, b3, HTT, H3⟩
            case measure => simp [intOf]
        have C84 : ((s[i].toNat : Int) == 84) = false := by rw [beq_eq_false_iff_ne]; exact c84
        by_cases hl : Pic.isLet s[i] = true
        · have cc : 97 ≤ s[i].toNat ∧ s[i].toNat ≤ 122 := by simpa [Pic.isLet] using hl
          obtain ⟨cc1, cc2⟩ := cc
          have hcl := hl
          clear c68 c1 c66 c83 c84
          rcases Int.emod_two_eq (im / 2 ^ (s[i].toNat - 97)) with hb | hb
          · have H2 := draw_imm (b := 0) hcl hb hh
            have h1 : bits BinOp.and IntKind.i64 ((im / 2 ^ (s[i].toNat - 97))) 1 = 0 := by rw [and_one]; exact hb
            have H3 : Hid (acc + (tt * 2) * Pic.draw (Pic.rv s.data.toList i) yd y1 y2 im = T) := by simpa using H2
            have b4 : acc < 4294967296 := by have := H3.out; omega
            clear hb hh H2 hcl
            go_wp2_with (go_at_call 160; refine (i_isLet _ _).mono ?_; rintro e w' ⟨rfl, rfl⟩)
            go_round
            case rel => exact ⟨i, acc, tt * 2, yd, y1, y2, by omega, by go_num, by go_num, by go_num, rfl, rfl, rfl, b3, HTT, H3⟩
            case measure => simp [intOf]
          · have H2 := draw_imm (b := 1) hcl hb hh
            have h1 : bits BinOp.and IntKind.i64 ((im / 2 ^ (s[i].toNat - 97))) 1 = 1 := by rw [and_one]; exact hb
            have H3 : Hid (acc + tt + (tt * 2) * Pic.draw (Pic.rv s.data.toList i) yd y1 y2 im = T) := by simpa using H2
            have b4 : acc + tt < 4294967296 := by have := H3.out; omega
            clear hb hh H2 hcl
            go_wp2_with (go_at_call 160; refine (i_isLet _ _).mono ?_; rintro e w' ⟨rfl, rfl⟩)
            go_round
            case rel => exact ⟨i, acc + tt, tt * 2, yd, y1, y2, by omega, by go_num, by go_num, by go_num, rfl, rfl, rfl, b3, HTT, H3⟩
            case measure => simp [intOf]
        have hl' : Pic.isLet s[i] = false := by simpa using hl
        have H3 := draw_none c1 c68 c66 c83 c84 hl' hh
        clear hh c1 c68 c66 c83 c84 hl
        go_wp2_with (go_at_call 160; refine (i_isLet _ _).mono ?_; rintro e w' ⟨rfl, rfl⟩)
        go_round
        case rel => exact ⟨i, acc, tt * 2, yd, y1, y2, by omega, by go_num, by go_num, by go_num, rfl, rfl, rfl, b3, HTT, H3⟩
        case measure => simp [intOf]
end Go.Proofs.YthfofjkfbhahoaaGreatDoor
end
