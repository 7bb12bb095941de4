import Derived.Test.YthfofjkfbhahoaaGreatDoorXF
import Derived.Test.YthfofjkfbhahoaaGreatDoorXJ
section
namespace Go.Proofs.YthfofjkfbhahoaaGreatDoor
open Go.RowKit
set_option linter.unusedSimpArgs false
set_option maxHeartbeats 400000 in
theorem r_bit (W : Nat) (hW : W < 4611686018427387904) (y : Int) (h0 : 0 ≤ y) (h1 : y ≤ 255) (w : World) :
    Calls Tryz.prog 161 #[.int .i64 W, .int .i64 y] w fun e w' => (∃ b : Nat, e = .returned (.int .i64 b) ∧ b ≤ 1 ∧ Hid (b = W / 2 ^ y.toNat % 2)) ∧ w' = w := by
  obtain ⟨n, rfl⟩ := Int.eq_ofNat_of_zero_le h0
  rw [Int.toNat_natCast]
  go_enter Tryz.func161, Tryz.ntmps161
  go_wp2
  go_loop [0, 1] (fun v k => ∃ x j : Nat, j ≤ n ∧ x < 4611686018427387904 ∧ v = .int .i64 x ∧ k = .int .i64 j ∧ Hid (x / 2 ^ j = W / 2 ^ n)) (fun _ k => (intOf k).toNat)
  case atStart => exact ⟨W, n, Nat.le_refl _, hW, rfl, rfl, rfl⟩
  case round =>
    obtain ⟨x, j, hj, hx, rfl, rfl, hh⟩ := hrel
    cases j with
    | zero =>
      go_wp2
      go_ret
      refine ⟨⟨x % 2, by go_num, by omega, ?_⟩, rfl⟩
      show x % 2 = _
      have := hh.out
      rw [Nat.pow_zero, Nat.div_one] at this
      rw [this]
    | succ i =>
      have hp : (0 : Int) < ((i + 1 : Nat) : Int) := by omega
      go_wp2
      go_round
      case rel => exact ⟨x / 2, i, by omega, by omega, by go_num, by go_num, (by rw [Nat.div_div_eq_div_mul, ← Nat.pow_succ']; exact hh.out : x / 2 / 2 ^ i = W / 2 ^ n)⟩
      case measure => simp [intOf] <;> omega
set_option maxHeartbeats 400000 in
theorem r_power (y : Int) (h0 : 0 ≤ y) (h1 : y ≤ 40) (w : World) :
    Calls Tryz.prog 162 #[.int .i64 y] w fun e w' => (∃ b : Nat, e = .returned (.int .i64 b) ∧ 1 ≤ b ∧ b ≤ 1099511627776 ∧ Hid (b = 2 ^ y.toNat)) ∧ w' = w := by
  obtain ⟨n, rfl⟩ := Int.eq_ofNat_of_zero_le h0
  rw [Int.toNat_natCast]
  have hbd : 2 ^ n ≤ 1099511627776 := by
    have : 2 ^ n ≤ 2 ^ 40 := Nat.pow_le_pow_right (by decide) (by omega)
    have e : (2 : Nat) ^ 40 = 1099511627776 := by decide
    omega
  obtain ⟨T, hT⟩ : ∃ T, T = 2 ^ n := ⟨_, rfl⟩
  rw [← hT] at hbd ⊢
  have HT : Hid (T = 2 ^ n) := hT
  clear hT
  go_enter Tryz.func162, Tryz.ntmps162
  go_wp2
  go_loop [0, 3] (fun k v => ∃ x j : Nat, j ≤ n ∧ v = .int .i64 x ∧ k = .int .i64 j ∧ 1 ≤ x ∧ Hid (x * 2 ^ j = T)) (fun k _ => (intOf k).toNat)
  case atStart => exact ⟨1, n, Nat.le_refl _, rfl, rfl, by omega, (by rw [Nat.one_mul]; exact HT.out.symm : 1 * 2 ^ n = T)⟩
  case round =>
    obtain ⟨x, j, hj, rfl, rfl, hx, hh⟩ := hrel
    have b1 : x ≤ 1099511627776 := by
      have h := hh.out
      have e : 1 ≤ 2 ^ j := Nat.one_le_two_pow
      have f : x * 1 ≤ x * 2 ^ j := Nat.mul_le_mul_left _ e
      omega
    cases j with
    | zero =>
      go_wp2
      go_ret
      exact ⟨⟨x, rfl, hx, b1, (by have := hh.out; rw [Nat.pow_zero, Nat.mul_one] at this; exact this : x = T)⟩, rfl⟩
    | succ i =>
      have hp : (0 : Int) < ((i + 1 : Nat) : Int) := by omega
      go_wp2
      go_round
      case rel => exact ⟨2 * x, i, by omega, by go_num, by go_num, by omega, (by rw [Nat.mul_comm 2 x, Nat.mul_assoc, ← Nat.pow_succ']; exact hh.out : 2 * x * 2 ^ i = T)⟩
      case measure => simp [intOf] <;> omega
set_option maxHeartbeats 1000000 in
theorem r_fits (s : ByteArray) (hs : s.size ≤ 32) (W : Nat) (hW : W < 4294967296) (w : World) :
    Calls Tryz.prog 156 #[.string s, .int .i64 W] w fun e w' => e = .returned (.bool (Pic.fits (Pic.rv s.data.toList s.size) W && (W / 2 ^ s.size == 0))) ∧ w' = w := by
  obtain ⟨R, hR⟩ : ∃ R : Bool, R = (Pic.fits (Pic.rv s.data.toList s.size) W && (W / 2 ^ s.size == 0)) := ⟨_, rfl⟩
  rw [← hR]
  have HR := hide hR
  clear hR
  go_enter Tryz.func156, Tryz.ntmps156
  go_wp2
  go_loop [1, 5] (fun y k => ∃ j x : Nat, j ≤ s.size ∧ x < 4294967296 ∧ k = .int .i64 ((j : Int) - 1) ∧ y = .int .i64 x ∧ Hid (R = (Pic.fits (Pic.rv s.data.toList j) x && (x / 2 ^ j == 0)))) (fun _ k => (intOf k + 1).toNat)
  case atStart => exact ⟨s.size, W, Nat.le_refl _, hW, rfl, rfl, HR⟩
  case round =>
    obtain ⟨j, x, hj, hx, rfl, rfl, hh⟩ := hrel
    cases j with
    | zero =>
      by_cases h0 : x = 0
      · subst h0
        go_wp2
        go_ret
        exact ⟨by rw [hh.out]; rfl, rfl⟩
      · have h0' : ((x : Int) == 0) = false := by rw [beq_eq_false_iff_ne]; omega
        go_wp2
        go_ret
        exact ⟨by rw [hh.out]; simp [Pic.rv_zero, Pic.fits, h0], rfl⟩
    | succ i =>
      have e : ((i + 1 : Nat) : Int) - 1 = (i : Int) := by omega
      rw [e]
      have hi : i < s.size := by omega
      rw [rv_at s i hi] at hh
      have hx2 : x / 2 ^ (i + 1) = x / 2 / 2 ^ i := by rw [Nat.pow_succ', Nat.div_div_eq_div_mul]
      rw [hx2] at hh
      clear hx2
      by_cases a0 : (s[i].toNat : Int) = 48
      · have A0 : ((s[i].toNat : Int) == 48) = true := by rw [beq_iff_eq]; exact a0
        have A1 : ((s[i].toNat : Int) == 49) = false := by rw [beq_eq_false_iff_ne]; omega
        rcases Nat.mod_two_eq_zero_or_one x with hm | hm
        · have h1 : ((x : Int) % 2 != 0) = false := by simp; omega
          have hh' : Hid (R = (Pic.fits (Pic.rv s.data.toList i) (x / 2) && (x / 2 / 2 ^ i == 0))) := by
            show R = _
            rw [hh.out]; simp only [Pic.fits]; rw [okBit_0 a0, hm]; simp
          have A0' := hide a0
          clear hh hm a0
          go_wp2
          go_round
          case rel => exact ⟨i, x / 2, by omega, by omega, by go_num, by go_num, hh'⟩
          case measure => simp [intOf]
        · have h1 : ((x : Int) % 2 != 0) = true := by simp; omega
          have hh' : Hid (R = false) := by
            show R = _
            rw [hh.out]; simp only [Pic.fits]; rw [okBit_0 a0, hm]; simp
          have A0' := hide a0
          clear hh hm a0
          go_wp2
          go_ret
          exact ⟨by rw [hh'.out]; rfl, rfl⟩
      · have A0 : ((s[i].toNat : Int) == 48) = false := by rw [beq_eq_false_iff_ne]; exact a0
        by_cases a1 : (s[i].toNat : Int) = 49
        · have A1 : ((s[i].toNat : Int) == 49) = true := by rw [beq_iff_eq]; exact a1
          rcases Nat.mod_two_eq_zero_or_one x with hm | hm
          · have h1 : ((x : Int) % 2 != 1) = true := by simp; omega
            have hh' : Hid (R = false) := by
              show R = _
              rw [hh.out]; simp only [Pic.fits]; rw [okBit_1 a1, hm]; simp
            have A1' := hide a1
            clear hh hm a1
            go_wp2
            go_ret
            exact ⟨by rw [hh'.out]; rfl, rfl⟩
          · have h1 : ((x : Int) % 2 != 1) = false := by simp; omega
            have hh' : Hid (R = (Pic.fits (Pic.rv s.data.toList i) (x / 2) && (x / 2 / 2 ^ i == 0))) := by
              show R = _
              rw [hh.out]; simp only [Pic.fits]; rw [okBit_1 a1, hm]; simp
            have A1' := hide a1
            clear hh hm a1
            go_wp2
            go_round
            case rel => exact ⟨i, x / 2, by omega, by omega, by go_num, by go_num, hh'⟩
            case measure => simp [intOf]
        · have A1 : ((s[i].toNat : Int) == 49) = false := by rw [beq_eq_false_iff_ne]; exact a1
          have hh' : Hid (R = (Pic.fits (Pic.rv s.data.toList i) (x / 2) && (x / 2 / 2 ^ i == 0))) := by
            show R = _
            rw [hh.out]; simp only [Pic.fits]; rw [okBit_x a0 a1]; simp
          clear hh
          go_wp2
          go_round
          case rel => exact ⟨i, x / 2, by omega, by omega, by go_num, by go_num, hh'⟩
          case measure => simp [intOf]
theorem half_pow (W n i : Nat) (h : i < n) : W / 2 ^ (n - 1 - i) / 2 = W / 2 ^ (n - i) := by
  rw [Nat.div_div_eq_div_mul, ← Nat.pow_succ]; congr 2; omega
theorem tv_hit {m : UInt8 → Bool} {c : UInt8} {q : List UInt8} {W n i v k b : Nat} (h : i < n) (hm : m c = true) (hb : Hid (b = W / 2 ^ (n - 1 - i) % 2)) (hv : Hid (v = Pic.val m q (W / 2 ^ (n - i)) ∧ k = Pic.cnt m q)) :
    Hid (2 * v + b = Pic.val m (c :: q) (W / 2 ^ (n - 1 - i)) ∧ k + 1 = Pic.cnt m (c :: q)) := by
  obtain ⟨h1, h2⟩ := hv.out
  refine ⟨?_, ?_⟩
  · simp only [Pic.val, hm, cond_true]; rw [half_pow W n i h, ← h1, hb.out]; omega
  · simp only [Pic.cnt, hm, cond_true]; omega
theorem tv_miss {m : UInt8 → Bool} {c : UInt8} {q : List UInt8} {W n i v k : Nat} (h : i < n) (hm : m c = false) (hv : Hid (v = Pic.val m q (W / 2 ^ (n - i)) ∧ k = Pic.cnt m q)) :
    Hid (v = Pic.val m (c :: q) (W / 2 ^ (n - 1 - i)) ∧ k = Pic.cnt m (c :: q)) := by
  obtain ⟨h1, h2⟩ := hv.out
  refine ⟨?_, ?_⟩
  · simp only [Pic.val, hm, cond_false]; rw [half_pow W n i h]; exact h1
  · simp only [Pic.cnt, hm, cond_false]; exact h2
theorem tv_bd {m : UInt8 → Bool} {q : List UInt8} {y v k : Nat} (hl : q.length ≤ 32) (hv : Hid (v = Pic.val m q y ∧ k = Pic.cnt m q)) : v < 4294967296 ∧ k ≤ 32 := by
  obtain ⟨h1, h2⟩ := hv.out
  have a := Pic.val_lt m q y
  have b := Pic.cnt_le m q
  have c : 2 ^ Pic.cnt m q ≤ 2 ^ 32 := Nat.pow_le_pow_right (by decide) (by omega)
  have d : (2 : Nat) ^ 32 = 4294967296 := by decide
  omega
set_option maxHeartbeats 1000000 in
theorem r_field_68 (s : ByteArray) (hs : s.size ≤ 32) (W : Nat) (hW : W < 4294967296) (w : World) :
    Calls Tryz.prog 216 #[.string s, .int .i64 W, .int .u8 68] w fun e w' => (∃ v k : Nat, e = .returned (.tuple #[.int .i64 v, .int .i64 k]) ∧ v < 4294967296 ∧ k ≤ 32 ∧ Hid (v = Pic.val (fun x => x == 68 || x == 66) (Pic.rv s.data.toList s.size) W ∧ k = Pic.cnt (fun x => x == 68 || x == 66) (Pic.rv s.data.toList s.size))) ∧ w' = w := by
  go_enter Tryz.func216, Tryz.ntmps216
  go_wp2
  go_loop [8, 9, 10] (fun a b d => ∃ i v k : Nat, i ≤ s.size ∧ a = .int .i64 v ∧ b = .int .i64 k ∧ d = .int .i64 i ∧ Hid (v = Pic.val (fun x => x == 68 || x == 66) (Pic.rv s.data.toList i) (W / 2 ^ (s.size - i)) ∧ k = Pic.cnt (fun x => x == 68 || x == 66) (Pic.rv s.data.toList i))) (fun _ _ d => s.size - (intOf d).toNat)
  case atStart => exact ⟨0, 0, 0, by omega, rfl, rfl, rfl, ⟨rfl, rfl⟩⟩
  case round =>
    obtain ⟨i, v, k, hi0, rfl, rfl, rfl, hh⟩ := hrel
    obtain ⟨b1, b2⟩ := tv_bd (by rw [Pic.rv_length _ _ (by simpa using hi0)]; omega) hh
    by_cases hi : i < s.size
    · have hnx : s.size - (i + 1) = s.size - 1 - i := by omega
      by_cases c1 : (s[i].toNat : Int) = 68
      · have hm : (fun x => x == 68 || x == 66) s[i] = true := by have e0 : s[i] = 68 := (u8_eq (n := 68) (by decide)).1 c1; simp [e0]
        have C1 : ((s[i].toNat : Int) == 68) = true := by rw [beq_iff_eq]; exact c1
        have C1' := hide c1
        clear c1
        go_wp2_with (go_at_call 161; refine (r_bit W (by omega) _ (by omega) (by omega) _).mono ?_; rintro e w' ⟨⟨b, rfl, hb1, hb2⟩, rfl⟩)
        have hy : ((s.size : Int) - 1 - (i : Int)).toNat = s.size - 1 - i := by omega
        rw [hy] at hb2
        have hv := tv_hit (c := s[i]) hi hm hb2 hh
        go_round
        case rel => exact ⟨i + 1, 2 * v + b, k + 1, by omega, by go_num, by go_num, by go_num, by rw [rv_at s i hi, hnx]; exact hv⟩
        case measure => simp [intOf]; omega
      · have C1 : ((s[i].toNat : Int) == 68) = false := by rw [beq_eq_false_iff_ne]; exact c1
        by_cases c2 : (s[i].toNat : Int) = 66
        · have hm : (fun x => x == 68 || x == 66) s[i] = true := by have e0 : s[i] = 66 := (u8_eq (n := 66) (by decide)).1 c2; simp [e0]
          have C2 : ((s[i].toNat : Int) == 66) = true := by rw [beq_iff_eq]; exact c2
          have C2' := hide c2
          clear c2 c1
          go_wp2_with (go_at_call 161; refine (r_bit W (by omega) _ (by omega) (by omega) _).mono ?_; rintro e w' ⟨⟨b, rfl, hb1, hb2⟩, rfl⟩)
          have hy : ((s.size : Int) - 1 - (i : Int)).toNat = s.size - 1 - i := by omega
          rw [hy] at hb2
          have hv := tv_hit (c := s[i]) hi hm hb2 hh
          go_round
          case rel => exact ⟨i + 1, 2 * v + b, k + 1, by omega, by go_num, by go_num, by go_num, by rw [rv_at s i hi, hnx]; exact hv⟩
          case measure => simp [intOf]; omega
        · have C2 : ((s[i].toNat : Int) == 66) = false := by rw [beq_eq_false_iff_ne]; exact c2
          have hm : (fun x => x == 68 || x == 66) s[i] = false := by
            have n1 : s[i] ≠ 68 := fun e => c1 ((u8_eq (n := 68) (by decide)).2 e)
            have n2 : s[i] ≠ 66 := fun e => c2 ((u8_eq (n := 66) (by decide)).2 e)
            simp [n1, n2]
          have hv := tv_miss (c := s[i]) hi hm hh
          clear c1 c2
          go_wp2
          go_round
          case rel => exact ⟨i + 1, v, k, by omega, by go_num, by go_num, by go_num, by rw [rv_at s i hi, hnx]; exact hv⟩
          case measure => simp [intOf]; omega
    · obtain rfl : i = s.size := by omega
      rw [Nat.sub_self, Nat.pow_zero, Nat.div_one] at hh
      go_wp2
      go_ret2
      exact ⟨⟨v, k, rfl, b1, b2, hh⟩, rfl⟩
set_option maxHeartbeats 1000000 in
theorem r_field_83 (s : ByteArray) (hs : s.size ≤ 32) (W : Nat) (hW : W < 4294967296) (w : World) :
    Calls Tryz.prog 216 #[.string s, .int .i64 W, .int .u8 83] w fun e w' => (∃ v k : Nat, e = .returned (.tuple #[.int .i64 v, .int .i64 k]) ∧ v < 4294967296 ∧ k ≤ 32 ∧ Hid (v = Pic.val (fun x => x == 83 || x == 66) (Pic.rv s.data.toList s.size) W ∧ k = Pic.cnt (fun x => x == 83 || x == 66) (Pic.rv s.data.toList s.size))) ∧ w' = w := by
  go_enter Tryz.func216, Tryz.ntmps216
  go_wp2
  go_loop [8, 9, 10] (fun a b d => ∃ i v k : Nat, i ≤ s.size ∧ a = .int .i64 v ∧ b = .int .i64 k ∧ d = .int .i64 i ∧ Hid (v = Pic.val (fun x => x == 83 || x == 66) (Pic.rv s.data.toList i) (W / 2 ^ (s.size - i)) ∧ k = Pic.cnt (fun x => x == 83 || x == 66) (Pic.rv s.data.toList i))) (fun _ _ d => s.size - (intOf d).toNat)
  case atStart => exact ⟨0, 0, 0, by omega, rfl, rfl, rfl, ⟨rfl, rfl⟩⟩
  case round =>
    obtain ⟨i, v, k, hi0, rfl, rfl, rfl, hh⟩ := hrel
    obtain ⟨b1, b2⟩ := tv_bd (by rw [Pic.rv_length _ _ (by simpa using hi0)]; omega) hh
    by_cases hi : i < s.size
    · have hnx : s.size - (i + 1) = s.size - 1 - i := by omega
      by_cases c1 : (s[i].toNat : Int) = 83
      · have hm : (fun x => x == 83 || x == 66) s[i] = true := by have e0 : s[i] = 83 := (u8_eq (n := 83) (by decide)).1 c1; simp [e0]
        have C1 : ((s[i].toNat : Int) == 83) = true := by rw [beq_iff_eq]; exact c1
        have C1' := hide c1
        clear c1
        go_wp2_with (go_at_call 161; refine (r_bit W (by omega) _ (by omega) (by omega) _).mono ?_; rintro e w' ⟨⟨b, rfl, hb1, hb2⟩, rfl⟩)
        have hy : ((s.size : Int) - 1 - (i : Int)).toNat = s.size - 1 - i := by omega
        rw [hy] at hb2
        have hv := tv_hit (c := s[i]) hi hm hb2 hh
        go_round
        case rel => exact ⟨i + 1, 2 * v + b, k + 1, by omega, by go_num, by go_num, by go_num, by rw [rv_at s i hi, hnx]; exact hv⟩
        case measure => simp [intOf]; omega
      · have C1 : ((s[i].toNat : Int) == 83) = false := by rw [beq_eq_false_iff_ne]; exact c1
        by_cases c2 : (s[i].toNat : Int) = 66
        · have hm : (fun x => x == 83 || x == 66) s[i] = true := by have e0 : s[i] = 66 := (u8_eq (n := 66) (by decide)).1 c2; simp [e0]
          have C2 : ((s[i].toNat : Int) == 66) = true := by rw [beq_iff_eq]; exact c2
          have C2' := hide c2
          clear c2 c1
          go_wp2_with (go_at_call 161; refine (r_bit W (by omega) _ (by omega) (by omega) _).mono ?_; rintro e w' ⟨⟨b, rfl, hb1, hb2⟩, rfl⟩)
          have hy : ((s.size : Int) - 1 - (i : Int)).toNat = s.size - 1 - i := by omega
          rw [hy] at hb2
          have hv := tv_hit (c := s[i]) hi hm hb2 hh
          go_round
          case rel => exact ⟨i + 1, 2 * v + b, k + 1, by omega, by go_num, by go_num, by go_num, by rw [rv_at s i hi, hnx]; exact hv⟩
          case measure => simp [intOf]; omega
        · have C2 : ((s[i].toNat : Int) == 66) = false := by rw [beq_eq_false_iff_ne]; exact c2
          have hm : (fun x => x == 83 || x == 66) s[i] = false := by
            have n1 : s[i] ≠ 83 := fun e => c1 ((u8_eq (n := 83) (by decide)).2 e)
            have n2 : s[i] ≠ 66 := fun e => c2 ((u8_eq (n := 66) (by decide)).2 e)
            simp [n1, n2]
          have hv := tv_miss (c := s[i]) hi hm hh
          clear c1 c2
          go_wp2
          go_round
          case rel => exact ⟨i + 1, v, k, by omega, by go_num, by go_num, by go_num, by rw [rv_at s i hi, hnx]; exact hv⟩
          case measure => simp [intOf]; omega
    · obtain rfl : i = s.size := by omega
      rw [Nat.sub_self, Nat.pow_zero, Nat.div_one] at hh
      go_wp2
      go_ret2
      exact ⟨⟨v, k, rfl, b1, b2, hh⟩, rfl⟩
set_option maxHeartbeats 1000000 in
theorem r_field_84 (s : ByteArray) (hs : s.size ≤ 32) (W : Nat) (hW : W < 4294967296) (w : World) :
    Calls Tryz.prog 216 #[.string s, .int .i64 W, .int .u8 84] w fun e w' => (∃ v k : Nat, e = .returned (.tuple #[.int .i64 v, .int .i64 k]) ∧ v < 4294967296 ∧ k ≤ 32 ∧ Hid (v = Pic.val (fun x => x == 84) (Pic.rv s.data.toList s.size) W ∧ k = Pic.cnt (fun x => x == 84) (Pic.rv s.data.toList s.size))) ∧ w' = w := by
  go_enter Tryz.func216, Tryz.ntmps216
  go_wp2
  go_loop [8, 9, 10] (fun a b d => ∃ i v k : Nat, i ≤ s.size ∧ a = .int .i64 v ∧ b = .int .i64 k ∧ d = .int .i64 i ∧ Hid (v = Pic.val (fun x => x == 84) (Pic.rv s.data.toList i) (W / 2 ^ (s.size - i)) ∧ k = Pic.cnt (fun x => x == 84) (Pic.rv s.data.toList i))) (fun _ _ d => s.size - (intOf d).toNat)
  case atStart => exact ⟨0, 0, 0, by omega, rfl, rfl, rfl, ⟨rfl, rfl⟩⟩
  case round =>
    obtain ⟨i, v, k, hi0, rfl, rfl, rfl, hh⟩ := hrel
    obtain ⟨b1, b2⟩ := tv_bd (by rw [Pic.rv_length _ _ (by simpa using hi0)]; omega) hh
    by_cases hi : i < s.size
    · have hnx : s.size - (i + 1) = s.size - 1 - i := by omega
      by_cases c1 : (s[i].toNat : Int) = 84
      · have hm : (fun x => x == 84) s[i] = true := by have e0 : s[i] = 84 := (u8_eq (n := 84) (by decide)).1 c1; simp [e0]
        have C1 : ((s[i].toNat : Int) == 84) = true := by rw [beq_iff_eq]; exact c1
        have C1' := hide c1
        clear c1
        go_wp2_with (go_at_call 161; refine (r_bit W (by omega) _ (by omega) (by omega) _).mono ?_; rintro e w' ⟨⟨b, rfl, hb1, hb2⟩, rfl⟩)
        have hy : ((s.size : Int) - 1 - (i : Int)).toNat = s.size - 1 - i := by omega
        rw [hy] at hb2
        have hv := tv_hit (c := s[i]) hi hm hb2 hh
        go_round
        case rel => exact ⟨i + 1, 2 * v + b, k + 1, by omega, by go_num, by go_num, by go_num, by rw [rv_at s i hi, hnx]; exact hv⟩
        case measure => simp [intOf]; omega
      · have C1 : ((s[i].toNat : Int) == 84) = false := by rw [beq_eq_false_iff_ne]; exact c1
        have hm : (fun x => x == 84) s[i] = false := by
          have n1 : s[i] ≠ 84 := fun e => c1 ((u8_eq (n := 84) (by decide)).2 e)
          simp [n1]
        have hv := tv_miss (c := s[i]) hi hm hh
        clear c1
        cases C2 : ((s[i].toNat : Int) == 66)
        · go_wp2
          go_round
          case rel => exact ⟨i + 1, v, k, by omega, by go_num, by go_num, by go_num, by rw [rv_at s i hi, hnx]; exact hv⟩
          case measure => simp [intOf]; omega
        · go_wp2
          go_round
          case rel => exact ⟨i + 1, v, k, by omega, by go_num, by go_num, by go_num, by rw [rv_at s i hi, hnx]; exact hv⟩
          case measure => simp [intOf]; omega
    · obtain rfl : i = s.size := by omega
      rw [Nat.sub_self, Nat.pow_zero, Nat.div_one] at hh
      go_wp2
      go_ret2
      exact ⟨⟨v, k, rfl, b1, b2, hh⟩, rfl⟩
end Go.Proofs.YthfofjkfbhahoaaGreatDoor
end
section
namespace Go.Proofs.YthfofjkfbhahoaaGreatDoor
open Go.RowKit
set_option linter.unusedSimpArgs false
/-- the register that a kind of letters draws, or what is given -/
def regR (m : UInt8 → Bool) (s : ByteArray) (W : Nat) (given : Int) : Int :=
  let q := Pic.rv s.data.toList s.size
  if Pic.cnt m q = 0 then given else if Pic.cnt m q = 3 then (Pic.val m q W : Int) + 8 else (Pic.val m q W : Int)
theorem regR_of {m : UInt8 → Bool} {s : ByteArray} {W v k : Nat} {g : Int} (h : Hid (v = Pic.val m (Pic.rv s.data.toList s.size) W ∧ k = Pic.cnt m (Pic.rv s.data.toList s.size))) :
    regR m s W g = if k = 0 then g else if k = 3 then (v : Int) + 8 else (v : Int) := by
  unfold regR; simp only; rw [← h.out.1, ← h.out.2]
set_option maxHeartbeats 400000 in
theorem r_register_68 (s : ByteArray) (hs : s.size ≤ 32) (W : Nat) (hW : W < 4294967296) (g : Int) (w : World) :
    Calls Tryz.prog 157 #[.string s, .int .i64 W, .int .u8 68, .int .i64 g] w fun e w' => e = .returned (.int .i64 (regR (fun x => x == 68 || x == 66) s W g)) ∧ w' = w := by
  go_enter Tryz.func157, Tryz.ntmps157
  go_wp2_with fail
  refine (r_field_68 s hs W hW _).mono ?_
  rintro e w1 ⟨⟨v, k, rfl, b1, b2, hh⟩, rfl⟩
  have HR := hide (regR_of (g := g) hh)
  clear hh
  by_cases k0 : k = 0
  · subst k0
    go_wp2
    go_ret
    exact ⟨congrArg (fun z => Ending.returned (Value.int .i64 z)) (by rw [HR.out]; rfl), rfl⟩
  · have K0 : ((k : Int) == 0) = false := by rw [beq_eq_false_iff_ne]; omega
    by_cases k3 : k = 3
    · subst k3
      go_wp2
      go_ret
      exact ⟨congrArg (fun z => Ending.returned (Value.int .i64 z)) (by rw [HR.out]; rfl), rfl⟩
    · have K3 : ((k : Int) == 3) = false := by rw [beq_eq_false_iff_ne]; omega
      go_wp2
      go_ret
      exact ⟨congrArg (fun z => Ending.returned (Value.int .i64 z)) (by rw [HR.out, if_neg k0, if_neg k3]), rfl⟩
set_option maxHeartbeats 400000 in
theorem r_register_83 (s : ByteArray) (hs : s.size ≤ 32) (W : Nat) (hW : W < 4294967296) (g : Int) (w : World) :
    Calls Tryz.prog 157 #[.string s, .int .i64 W, .int .u8 83, .int .i64 g] w fun e w' => e = .returned (.int .i64 (regR (fun x => x == 83 || x == 66) s W g)) ∧ w' = w := by
  go_enter Tryz.func157, Tryz.ntmps157
  go_wp2_with fail
  refine (r_field_83 s hs W hW _).mono ?_
  rintro e w1 ⟨⟨v, k, rfl, b1, b2, hh⟩, rfl⟩
  have HR := hide (regR_of (g := g) hh)
  clear hh
  by_cases k0 : k = 0
  · subst k0
    go_wp2
    go_ret
    exact ⟨congrArg (fun z => Ending.returned (Value.int .i64 z)) (by rw [HR.out]; rfl), rfl⟩
  · have K0 : ((k : Int) == 0) = false := by rw [beq_eq_false_iff_ne]; omega
    by_cases k3 : k = 3
    · subst k3
      go_wp2
      go_ret
      exact ⟨congrArg (fun z => Ending.returned (Value.int .i64 z)) (by rw [HR.out]; rfl), rfl⟩
    · have K3 : ((k : Int) == 3) = false := by rw [beq_eq_false_iff_ne]; omega
      go_wp2
      go_ret
      exact ⟨congrArg (fun z => Ending.returned (Value.int .i64 z)) (by rw [HR.out, if_neg k0, if_neg k3]), rfl⟩
set_option maxHeartbeats 400000 in
theorem r_register_84 (s : ByteArray) (hs : s.size ≤ 32) (W : Nat) (hW : W < 4294967296) (g : Int) (w : World) :
    Calls Tryz.prog 157 #[.string s, .int .i64 W, .int .u8 84, .int .i64 g] w fun e w' => e = .returned (.int .i64 (regR (fun x => x == 84) s W g)) ∧ w' = w := by
  go_enter Tryz.func157, Tryz.ntmps157
  go_wp2_with fail
  refine (r_field_84 s hs W hW _).mono ?_
  rintro e w1 ⟨⟨v, k, rfl, b1, b2, hh⟩, rfl⟩
  have HR := hide (regR_of (g := g) hh)
  clear hh
  by_cases k0 : k = 0
  · subst k0
    go_wp2
    go_ret
    exact ⟨congrArg (fun z => Ending.returned (Value.int .i64 z)) (by rw [HR.out]; rfl), rfl⟩
  · have K0 : ((k : Int) == 0) = false := by rw [beq_eq_false_iff_ne]; omega
    by_cases k3 : k = 3
    · subst k3
      go_wp2
      go_ret
      exact ⟨congrArg (fun z => Ending.returned (Value.int .i64 z)) (by rw [HR.out]; rfl), rfl⟩
    · have K3 : ((k : Int) == 3) = false := by rw [beq_eq_false_iff_ne]; omega
      go_wp2
      go_ret
      exact ⟨congrArg (fun z => Ending.returned (Value.int .i64 z)) (by rw [HR.out, if_neg k0, if_neg k3]), rfl⟩
/-- the highest letter of a picture -/
def topN : List UInt8 → Nat
  | [] => 0
  | x :: q => if 97 ≤ x.toNat ∧ topN q < x.toNat then x.toNat else topN q
set_option maxHeartbeats 400000 in
theorem r_top (s : ByteArray) (hs : s.size ≤ 32) (w : World) :
    Calls Tryz.prog 217 #[.string s] w fun e w' => e = .returned (.int .u8 (topN (Pic.rv s.data.toList s.size) : Nat)) ∧ w' = w := by
  go_enter Tryz.func217, Tryz.ntmps217
  go_wp2
  go_loop [3, 4] (fun a d => ∃ i t : Nat, i ≤ s.size ∧ a = .int .u8 t ∧ d = .int .i64 i ∧ Hid (t = topN (Pic.rv s.data.toList i))) (fun _ d => s.size - (intOf d).toNat)
  case atStart => exact ⟨0, 0, by omega, rfl, rfl, rfl⟩
  case round =>
    obtain ⟨i, t, hi0, rfl, rfl, hh⟩ := hrel
    by_cases hi : i < s.size
    · have hx : topN (Pic.rv s.data.toList (i + 1)) = if 97 ≤ s[i].toNat ∧ t < s[i].toNat then s[i].toNat else t := by
        rw [rv_at s i hi, hh.out]; rfl
      have HX := hide hx
      clear hx
      by_cases c1 : 97 ≤ s[i].toNat
      · by_cases c2 : t < s[i].toNat
        · have c2' : decide ((t : Int) < (s[i].toNat : Int)) = true := by simp; omega
          go_wp2
          go_round
          case rel => exact ⟨i + 1, s[i].toNat, by omega, rfl, by go_num, (by rw [HX.out, if_pos ⟨c1, c2⟩] : _ = _)⟩
          case measure => simp [intOf]; omega
        · have c2' : decide ((t : Int) < (s[i].toNat : Int)) = false := by simp; omega
          go_wp2
          go_round
          case rel => exact ⟨i + 1, t, by omega, rfl, by go_num, (by rw [HX.out, if_neg (fun h => c2 h.2)] : _ = _)⟩
          case measure => simp [intOf]; omega
      · have c1' : decide ((97 : Int) ≤ (s[i].toNat : Int)) = false := by simp; omega
        go_wp2
        go_round
        case rel => exact ⟨i + 1, t, by omega, rfl, by go_num, (by rw [HX.out, if_neg (fun h => c1 h.1)] : _ = _)⟩
        case measure => simp [intOf]; omega
    · obtain rfl : i = s.size := by omega
      go_wp2
      go_ret
      exact ⟨by rw [← hh.out]; rfl, rfl⟩
/-- the sum of the letters' weights, the letter t perhaps negative -/
def sumR (sg : Bool) (t : Nat) : List UInt8 → Nat → Int
  | [], _ => 0
  | x :: q, y => (if 97 ≤ x.toNat then (if sg = true ∧ x.toNat = t then -((y % 2 * 2 ^ (x.toNat - 97) : Nat) : Int) else ((y % 2 * 2 ^ (x.toNat - 97) : Nat) : Int)) else 0) + sumR sg t q (y / 2)
theorem sumR_bd (sg : Bool) (t : Nat) : ∀ (q : List UInt8) (y : Nat), (∀ x ∈ q, x.toNat ≤ 122) → -(33554432 * (q.length : Int)) ≤ sumR sg t q y ∧ sumR sg t q y ≤ 33554432 * (q.length : Int)
  | [], _, _ => by simp [sumR]
  | x :: q, y, h => by
    have ih := sumR_bd sg t q (y / 2) (fun z hz => h z (by simp [hz]))
    have hx := h x (by simp)
    have h1 : 2 ^ (x.toNat - 97) ≤ 2 ^ 25 := Nat.pow_le_pow_right (by decide) (by omega)
    have h3 : (2 : Nat) ^ 25 = 33554432 := by decide
    have h2 : y % 2 * 2 ^ (x.toNat - 97) ≤ 1 * 2 ^ (x.toNat - 97) := Nat.mul_le_mul_right _ (by omega)
    simp only [sumR, List.length_cons]
    generalize y % 2 * 2 ^ (x.toNat - 97) = z at *
    generalize 2 ^ (x.toNat - 97) = p at *
    split
    · split <;> (constructor <;> omega)
    · constructor <;> omega
theorem sumR_step {sg : Bool} {t : Nat} {x : UInt8} {q : List UInt8} {W n i b p : Nat} {v : Int} (h : i < n) (hc : 97 ≤ x.toNat) (hb : Hid (b = W / 2 ^ (n - 1 - i) % 2)) (hp : Hid (p = 2 ^ (x.toNat - 97)))
    (hv : Hid (v = sumR sg t q (W / 2 ^ (n - i)))) (z : Int) (hz : z = if sg = true ∧ x.toNat = t then -((b * p : Nat) : Int) else ((b * p : Nat) : Int)) : Hid (v + z = sumR sg t (x :: q) (W / 2 ^ (n - 1 - i))) := by
  show v + z = _
  simp only [sumR, if_pos hc]
  rw [half_pow W n i h, ← hv.out, ← hb.out, ← hp.out, hz]
  omega
theorem sumR_skip {sg : Bool} {t : Nat} {x : UInt8} {q : List UInt8} {W n i : Nat} {v : Int} (h : i < n) (hc : ¬ 97 ≤ x.toNat)
    (hv : Hid (v = sumR sg t q (W / 2 ^ (n - i)))) : Hid (v = sumR sg t (x :: q) (W / 2 ^ (n - 1 - i))) := by
  show v = _
  simp only [sumR, if_neg hc]
  rw [half_pow W n i h, ← hv.out]; omega
def immR (s : ByteArray) (sg : Bool) (W : Nat) : Int := sumR sg (topN (Pic.rv s.data.toList s.size)) (Pic.rv s.data.toList s.size) W
theorem rv_mem {l : List UInt8} {j : Nat} {x : UInt8} (h : x ∈ Pic.rv l j) : x ∈ l := by
  unfold Pic.rv at h; rw [List.mem_reverse] at h; exact List.mem_of_mem_take h
set_option maxHeartbeats 2000000 in
theorem r_immediate (a : Int) (s : ByteArray) (sg : Bool) (rd rs1 : Int) (no : ByteArray) (hs : s.size ≤ 32) (hl : ∀ x ∈ s.data.toList, x.toNat ≤ 122) (W : Nat) (hW : W < 4294967296) (w : World) :
    Calls Tryz.prog 158 #[.agg #[.int .i64 a, .string s, .bool sg, .int .i64 rd, .int .i64 rs1, .string no], .int .i64 W] w fun e w' => e = .returned (.int .i64 (immR s sg W)) ∧ Below w.heap.size w w' := by
  have HL := hide hl
  clear hl
  go_enter Tryz.func158, Tryz.ntmps158
  go_wp2_with fail
  refine (r_top s hs _).mono ?_
  rintro e w1 ⟨rfl, rfl⟩
  obtain ⟨T, hT⟩ : ∃ T, T = topN (Pic.rv s.data.toList s.size) := ⟨_, rfl⟩
  rw [← hT]
  have HI : Hid (immR s sg W = sumR sg T (Pic.rv s.data.toList s.size) W) := by rw [hT]; rfl
  clear hT
  go_wp2_with fail
  go_loop [5, 7] (fun a d => ∃ (i : Nat) (v : Int), i ≤ s.size ∧ a = .int .i64 v ∧ d = .int .i64 i ∧ Hid (v = sumR sg T (Pic.rv s.data.toList i) (W / 2 ^ (s.size - i)))) (fun _ d => s.size - (intOf d).toNat)
  case atStart => exact ⟨0, 0, by omega, rfl, rfl, rfl⟩
  case round =>
    obtain ⟨i, v, hi0, rfl, rfl, hh⟩ := hrel
    have hbd := sumR_bd sg T (Pic.rv s.data.toList i) (W / 2 ^ (s.size - i)) (fun x hx => HL.out x (rv_mem hx))
    rw [Pic.rv_length _ _ (by simpa using hi0), ← hh.out] at hbd
    obtain ⟨v1, v2⟩ := hbd
    have v3 : -1073741824 ≤ v := by omega
    have v4 : v ≤ 1073741824 := by omega
    clear v1 v2
    by_cases hi : i < s.size
    · have hnx : s.size - (i + 1) = s.size - 1 - i := by omega
      have hxl : s[i].toNat ≤ 122 := HL.out s[i] (by
        have : s[i] = s.data.toList[i]'(by simpa using hi) := rfl
        rw [this]; exact List.getElem_mem _)
      by_cases c1 : 97 ≤ s[i].toNat
      · go_wp2_with fail
        refine (r_bit W (by omega) _ (by omega) (by omega) _).mono ?_
        rintro e w' ⟨⟨b, rfl, hb1, hb2⟩, rfl⟩
        have hy : ((s.size : Int) - 1 - (i : Int)).toNat = s.size - 1 - i := by omega
        rw [hy] at hb2
        clear hy
        go_wp2_with fail
        refine (r_power _ (by omega) (by omega) _).mono ?_
        rintro e w' ⟨⟨p, rfl, hp1, hp2, hp3⟩, rfl⟩
        have hy : ((s[i].toNat : Int) - 97).toNat = s[i].toNat - 97 := by omega
        rw [hy] at hp3
        clear hy
        have hstep := fun (z : Int) (hz0 : _) => sumR_step (x := s[i]'hi) hi c1 hb2 hp3 hh z hz0
        rw [← hnx, ← rv_at s i hi] at hstep
        have HS := hide hstep
        clear hstep hh hb2 hp3
        cases sg with
        | false =>
          rcases (show b = 0 ∨ b = 1 by omega) with rfl | rfl
          · have hv := HS.out 0 (by simp)
            go_wp2
            go_round
            case rel => exact ⟨i + 1, v, by omega, by go_num, by go_num, by simpa using hv⟩
            case measure => simp [intOf]; omega
          · have hv := HS.out ((p : Int)) (by simp)
            go_wp2
            go_round
            case rel => exact ⟨i + 1, v + (p : Int), by omega, by go_num, by go_num, hv⟩
            case measure => simp [intOf]; omega
        | true =>
          by_cases ct : s[i].toNat = T
          · have CT : ((s[i].toNat : Int) == (T : Int)) = true := by rw [beq_iff_eq]; omega
            have CT' := hide ct
            clear ct
            rcases (show b = 0 ∨ b = 1 by omega) with rfl | rfl
            · have hv := HS.out 0 (by rw [if_pos ⟨rfl, CT'.out⟩]; simp)
              go_wp2
              go_round
              case rel => exact ⟨i + 1, v, by omega, by go_num, by go_num, by simpa using hv⟩
              case measure => simp [intOf]; omega
            · have hv := HS.out ((-(p : Int))) (by rw [if_pos ⟨rfl, CT'.out⟩]; simp)
              go_wp2
              go_round
              case rel => exact ⟨i + 1, v + (-(p : Int)), by omega, by go_num, by go_num, hv⟩
              case measure => simp [intOf]; omega
          · have CT : ((s[i].toNat : Int) == (T : Int)) = false := by rw [beq_eq_false_iff_ne]; omega
            rcases (show b = 0 ∨ b = 1 by omega) with rfl | rfl
            · have hv := HS.out 0 (by rw [if_neg (fun h => ct h.2)]; simp)
              go_wp2
              go_round
              case rel => exact ⟨i + 1, v, by omega, by go_num, by go_num, by simpa using hv⟩
              case measure => simp [intOf]; omega
            · have hv := HS.out ((p : Int)) (by rw [if_neg (fun h => ct h.2)]; simp)
              go_wp2
              go_round
              case rel => exact ⟨i + 1, v + (p : Int), by omega, by go_num, by go_num, hv⟩
              case measure => simp [intOf]; omega
      · have c1' : decide ((97 : Int) ≤ (s[i].toNat : Int)) = false := by simp; omega
        have hv := sumR_skip (x := s[i]) hi c1 hh
        rw [← hnx, ← rv_at s i hi] at hv
        clear hh
        go_wp2
        go_round
        case rel => exact ⟨i + 1, v, by omega, rfl, by go_num, hv⟩
        case measure => simp [intOf]; omega
    · obtain rfl : i = s.size := by omega
      rw [Nat.sub_self, Nat.pow_zero, Nat.div_one] at hh
      go_wp2
      go_ret
      exact ⟨by rw [HI.out, ← hh.out]; rfl, (Below.refl _ _).alloc (Nat.le_refl _) _⟩
end Go.Proofs.YthfofjkfbhahoaaGreatDoor
end
section
namespace Go.Proofs.YthfofjkfbhahoaaGreatDoor
open Go.RowKit
set_option linter.unusedSimpArgs false
def barC (x : Ins) (c : UInt8) : Bool := (c == 105 && x.im == 0) || (c == 100 && x.rd == 0) || (c == 115 && x.rs1 == 0) || (c == 116 && x.rs2 == 0) || (c == 50 && x.rd == 2)
theorem drop_at (s : ByteArray) (i : Nat) (h : i < s.size) : s.data.toList.drop i = s[i] :: s.data.toList.drop (i + 1) := by
  rw [List.drop_eq_getElem_cons (by simpa using h)]; rfl
theorem bar_yes {x : Ins} {s : ByteArray} {i : Nat} {R : Bool} (h : i < s.size) (hc : barC x s[i] = true) (hh : Hid (R = (s.data.toList.drop i).any (barC x))) : R = true := by
  rw [hh.out, drop_at s i h, List.any_cons, hc, Bool.true_or]
theorem bar_no {x : Ins} {s : ByteArray} {i : Nat} {R : Bool} (h : i < s.size) (hc : barC x s[i] = false) (hh : Hid (R = (s.data.toList.drop i).any (barC x))) : Hid (R = (s.data.toList.drop (i + 1)).any (barC x)) := by
  show R = _
  rw [hh.out, drop_at s i h, List.any_cons, hc, Bool.false_or]
set_option maxHeartbeats 4000000 in
theorem r_barred (a : Int) (s : ByteArray) (sg : Bool) (rd rs1 : Int) (no : ByteArray) (hno : no.size ≤ 32) (x : Ins) (w : World) :
    Calls Tryz.prog 159 #[.agg #[.int .i64 a, .string s, .bool sg, .int .i64 rd, .int .i64 rs1, .string no], insV x] w fun e w' => e = .returned (.bool (no.data.toList.any (barC x))) ∧ Below w.heap.size w w' := by
  unfold insV
  obtain ⟨R, hR⟩ : ∃ R : Bool, R = (no.data.toList.drop 0).any (barC x) := ⟨_, rfl⟩
  rw [show no.data.toList.any (barC x) = R from hR.symm]
  have HR := hide hR
  clear hR
  go_enter Tryz.func159, Tryz.ntmps159
  go_wp2
  go_loop [5] (fun d => ∃ i : Nat, i ≤ no.size ∧ d = .int .i64 i ∧ Hid (R = (no.data.toList.drop i).any (barC x))) (fun d => no.size - (intOf d).toNat)
  case atStart => exact ⟨0, by omega, rfl, HR⟩
  case round =>
    obtain ⟨i, hi0, rfl, hh⟩ := hrel
    by_cases hi : i < no.size
    · by_cases c105 : (no[i].toNat : Int) = 105
      · skip
        have e0 : no[i] = 105 := (u8_eq (n := 105) (by decide)).1 c105
        have C105 : ((no[i].toNat : Int) == 105) = true := by rw [c105]; rfl
        have C100 : ((no[i].toNat : Int) == 100) = false := by rw [c105]; rfl
        have C115 : ((no[i].toNat : Int) == 115) = false := by rw [c105]; rfl
        have C116 : ((no[i].toNat : Int) == 116) = false := by rw [c105]; rfl
        have C50 : ((no[i].toNat : Int) == 50) = false := by rw [c105]; rfl
        have hb : barC x no[i] = (x.im == 0) := by rw [e0]; simp [barC]
        have E0 := hide e0
        have CC := hide c105
        clear e0 c105
        cases hx : (x.im == 0)
        · have hn := bar_no hi (hb.trans hx) hh
          clear hb hh
          go_wp2
          go_round
          case rel => exact ⟨i + 1, by omega, by go_num, hn⟩
          case measure => simp [intOf]; omega
        · have hn := hide (bar_yes hi (hb.trans hx) hh)
          clear hb hh
          go_wp2
          go_ret
          exact ⟨by rw [hn.out]; rfl, ((Below.refl _ _).alloc (Nat.le_refl _) _).alloc (by simp) _⟩
      by_cases c100 : (no[i].toNat : Int) = 100
      · skip
        have e0 : no[i] = 100 := (u8_eq (n := 100) (by decide)).1 c100
        have C105 : ((no[i].toNat : Int) == 105) = false := by rw [c100]; rfl
        have C100 : ((no[i].toNat : Int) == 100) = true := by rw [c100]; rfl
        have C115 : ((no[i].toNat : Int) == 115) = false := by rw [c100]; rfl
        have C116 : ((no[i].toNat : Int) == 116) = false := by rw [c100]; rfl
        have C50 : ((no[i].toNat : Int) == 50) = false := by rw [c100]; rfl
        have hb : barC x no[i] = (x.rd == 0) := by rw [e0]; simp [barC]
        have E0 := hide e0
        have CC := hide c100
        clear e0 c100
        cases hx : (x.rd == 0)
        · have hn := bar_no hi (hb.trans hx) hh
          clear hb hh
          go_wp2
          go_round
          case rel => exact ⟨i + 1, by omega, by go_num, hn⟩
          case measure => simp [intOf]; omega
        · have hn := hide (bar_yes hi (hb.trans hx) hh)
          clear hb hh
          go_wp2
          go_ret
          exact ⟨by rw [hn.out]; rfl, ((Below.refl _ _).alloc (Nat.le_refl _) _).alloc (by simp) _⟩
      by_cases c115 : (no[i].toNat : Int) = 115
      · skip
        have e0 : no[i] = 115 := (u8_eq (n := 115) (by decide)).1 c115
        have C105 : ((no[i].toNat : Int) == 105) = false := by rw [c115]; rfl
        have C100 : ((no[i].toNat : Int) == 100) = false := by rw [c115]; rfl
        have C115 : ((no[i].toNat : Int) == 115) = true := by rw [c115]; rfl
        have C116 : ((no[i].toNat : Int) == 116) = false := by rw [c115]; rfl
        have C50 : ((no[i].toNat : Int) == 50) = false := by rw [c115]; rfl
        have hb : barC x no[i] = (x.rs1 == 0) := by rw [e0]; simp [barC]
        have E0 := hide e0
        have CC := hide c115
        clear e0 c115
        cases hx : (x.rs1 == 0)
        · have hn := bar_no hi (hb.trans hx) hh
          clear hb hh
          go_wp2
          go_round
          case rel => exact ⟨i + 1, by omega, by go_num, hn⟩
          case measure => simp [intOf]; omega
        · have hn := hide (bar_yes hi (hb.trans hx) hh)
          clear hb hh
          go_wp2
          go_ret
          exact ⟨by rw [hn.out]; rfl, ((Below.refl _ _).alloc (Nat.le_refl _) _).alloc (by simp) _⟩
      by_cases c116 : (no[i].toNat : Int) = 116
      · skip
        have e0 : no[i] = 116 := (u8_eq (n := 116) (by decide)).1 c116
        have C105 : ((no[i].toNat : Int) == 105) = false := by rw [c116]; rfl
        have C100 : ((no[i].toNat : Int) == 100) = false := by rw [c116]; rfl
        have C115 : ((no[i].toNat : Int) == 115) = false := by rw [c116]; rfl
        have C116 : ((no[i].toNat : Int) == 116) = true := by rw [c116]; rfl
        have C50 : ((no[i].toNat : Int) == 50) = false := by rw [c116]; rfl
        have hb : barC x no[i] = (x.rs2 == 0) := by rw [e0]; simp [barC]
        have E0 := hide e0
        have CC := hide c116
        clear e0 c116
        cases hx : (x.rs2 == 0)
        · have hn := bar_no hi (hb.trans hx) hh
          clear hb hh
          go_wp2
          go_round
          case rel => exact ⟨i + 1, by omega, by go_num, hn⟩
          case measure => simp [intOf]; omega
        · have hn := hide (bar_yes hi (hb.trans hx) hh)
          clear hb hh
          go_wp2
          go_ret
          exact ⟨by rw [hn.out]; rfl, ((Below.refl _ _).alloc (Nat.le_refl _) _).alloc (by simp) _⟩
      by_cases c50 : (no[i].toNat : Int) = 50
      · skip
        have e0 : no[i] = 50 := (u8_eq (n := 50) (by decide)).1 c50
        have C105 : ((no[i].toNat : Int) == 105) = false := by rw [c50]; rfl
        have C100 : ((no[i].toNat : Int) == 100) = false := by rw [c50]; rfl
        have C115 : ((no[i].toNat : Int) == 115) = false := by rw [c50]; rfl
        have C116 : ((no[i].toNat : Int) == 116) = false := by rw [c50]; rfl
        have C50 : ((no[i].toNat : Int) == 50) = true := by rw [c50]; rfl
        have hb : barC x no[i] = (x.rd == 2) := by rw [e0]; simp [barC]
        have E0 := hide e0
        have CC := hide c50
        clear e0 c50
        cases hx : (x.rd == 2)
        · have hn := bar_no hi (hb.trans hx) hh
          clear hb hh
          go_wp2
          go_round
          case rel => exact ⟨i + 1, by omega, by go_num, hn⟩
          case measure => simp [intOf]; omega
        · have hn := hide (bar_yes hi (hb.trans hx) hh)
          clear hb hh
          go_wp2
          go_ret
          exact ⟨by rw [hn.out]; rfl, ((Below.refl _ _).alloc (Nat.le_refl _) _).alloc (by simp) _⟩
      have hb : barC x no[i] = false := by
        have n105 : no[i] ≠ 105 := fun e => c105 ((u8_eq (n := 105) (by decide)).2 e)
        have n100 : no[i] ≠ 100 := fun e => c100 ((u8_eq (n := 100) (by decide)).2 e)
        have n115 : no[i] ≠ 115 := fun e => c115 ((u8_eq (n := 115) (by decide)).2 e)
        have n116 : no[i] ≠ 116 := fun e => c116 ((u8_eq (n := 116) (by decide)).2 e)
        have n50 : no[i] ≠ 50 := fun e => c50 ((u8_eq (n := 50) (by decide)).2 e)
        simp [barC, n105, n100, n115, n116, n50]
      have C105 : ((no[i].toNat : Int) == 105) = false := by rw [beq_eq_false_iff_ne]; exact c105
      have C100 : ((no[i].toNat : Int) == 100) = false := by rw [beq_eq_false_iff_ne]; exact c100
      have C115 : ((no[i].toNat : Int) == 115) = false := by rw [beq_eq_false_iff_ne]; exact c115
      have C116 : ((no[i].toNat : Int) == 116) = false := by rw [beq_eq_false_iff_ne]; exact c116
      have C50 : ((no[i].toNat : Int) == 50) = false := by rw [beq_eq_false_iff_ne]; exact c50
      have hn := bar_no hi hb hh
      clear hb hh c105 c100 c115 c116 c50
      go_wp2
      go_round
      case rel => exact ⟨i + 1, by omega, by go_num, hn⟩
      case measure => simp [intOf]; omega
    · obtain rfl : i = no.size := by omega
      have hr : Hid (R = false) := by
        show R = false
        rw [hh.out, List.drop_eq_nil_of_le (by simp)]; rfl
      clear hh
      go_wp2
      go_ret
      exact ⟨by rw [hr.out]; rfl, ((Below.refl _ _).alloc (Nat.le_refl _) _).alloc (by simp) _⟩
/-- what a word means by a row of the document's tables -/
def insR (t : TabR.Row) (W : Nat) : Ins :=
  ⟨t.op, regR (fun x => x == 68 || x == 66) t.pic W t.rd, regR (fun x => x == 83 || x == 66) t.pic W t.rs1, regR (fun x => x == 84) t.pic W 0, immR t.pic t.sg W, (t.pic.size : Int) / 8⟩
def fitR (t : TabR.Row) (W : Nat) : Bool := Pic.fits (Pic.rv t.pic.data.toList t.pic.size) W && (W / 2 ^ t.pic.size == 0)
def readR (t : TabR.Row) (W : Nat) : Bool := fitR t W && !(t.no.data.toList.any (barC (insR t W)))
/-- a row, and an instruction of zeros that may be written, lie in the two blocks behind w -/
structure RB (t : TabR.Row) (w wr : World) : Prop where
  below : Below w.heap.size w wr
  lt : w.heap.size + 1 < wr.heap.size
  r0 : wr.cell? ⟨w.heap.size, 0, none⟩ = some (.int .i64 t.op)
  r1 : wr.cell? ⟨w.heap.size, 1, none⟩ = some (.string t.pic)
  r2 : wr.cell? ⟨w.heap.size, 2, none⟩ = some (.bool t.sg)
  r3 : wr.cell? ⟨w.heap.size, 3, none⟩ = some (.int .i64 t.rd)
  r4 : wr.cell? ⟨w.heap.size, 4, none⟩ = some (.int .i64 t.rs1)
  r5 : wr.cell? ⟨w.heap.size, 5, none⟩ = some (.string t.no)
  z0 : wr.cell? ⟨w.heap.size + 1, 0, none⟩ = some (.int .i64 0)
  z1 : wr.cell? ⟨w.heap.size + 1, 1, none⟩ = some (.int .i64 0)
  z2 : wr.cell? ⟨w.heap.size + 1, 2, none⟩ = some (.int .i64 0)
  z3 : wr.cell? ⟨w.heap.size + 1, 3, none⟩ = some (.int .i64 0)
  z4 : wr.cell? ⟨w.heap.size + 1, 4, none⟩ = some (.int .i64 0)
  z5 : wr.cell? ⟨w.heap.size + 1, 5, none⟩ = some (.int .i64 0)
  fro : ∀ o, wr.frozen? ⟨w.heap.size + 1, o, none⟩ = false
theorem RB.start (t : TabR.Row) (w : World) (a b : TypeId) : RB t w ((w.alloc (.cells #[.int .i64 t.op, .string t.pic, .bool t.sg, .int .i64 t.rd, .int .i64 t.rs1, .string t.no] a)).alloc (.cells #[.int .i64 0, .int .i64 0, .int .i64 0, .int .i64 0, .int .i64 0, .int .i64 0] b)) :=
  ⟨((Below.refl _ _).alloc (Nat.le_refl _) _).alloc (by simp) _, by simp, by simp, by simp, by simp, by simp, by simp, by simp, by simp, by simp, by simp, by simp, by simp, by simp, by intro o; simp⟩
theorem RB.more {t : TabR.Row} {w wr w' : World} (h : RB t w wr) (hb : Below wr.heap.size wr w') : RB t w w' := by
  have l := h.lt
  have l0 : w.heap.size < wr.heap.size := by omega
  exact ⟨h.below.trans (hb.mono (Nat.le_of_lt l0)), Nat.lt_of_lt_of_le l hb.size, (hb.cell (p := ⟨w.heap.size, 0, none⟩) l0).trans h.r0, (hb.cell (p := ⟨w.heap.size, 1, none⟩) l0).trans h.r1, (hb.cell (p := ⟨w.heap.size, 2, none⟩) l0).trans h.r2, (hb.cell (p := ⟨w.heap.size, 3, none⟩) l0).trans h.r3, (hb.cell (p := ⟨w.heap.size, 4, none⟩) l0).trans h.r4, (hb.cell (p := ⟨w.heap.size, 5, none⟩) l0).trans h.r5, (hb.cell (p := ⟨w.heap.size + 1, 0, none⟩) l).trans h.z0, (hb.cell (p := ⟨w.heap.size + 1, 1, none⟩) l).trans h.z1, (hb.cell (p := ⟨w.heap.size + 1, 2, none⟩) l).trans h.z2, (hb.cell (p := ⟨w.heap.size + 1, 3, none⟩) l).trans h.z3, (hb.cell (p := ⟨w.heap.size + 1, 4, none⟩) l).trans h.z4, (hb.cell (p := ⟨w.heap.size + 1, 5, none⟩) l).trans h.z5, fun o => (hb.frozen (p := ⟨w.heap.size + 1, o, none⟩) l).trans (h.fro o)⟩
theorem RB.alloc {t : TabR.Row} {w wr : World} (h : RB t w wr) (o : Obj) : RB t w (wr.alloc o) := h.more ((Below.refl _ _).alloc (Nat.le_refl _) _)
set_option maxHeartbeats 4000000 in
theorem r_read_no1 (t : TabR.Row) (hs : t.pic.size ≤ 32) (W : Nat) (hW : W < 4294967296) (w : World) (hf : fitR t W = false) :
    Calls Tryz.prog 109 #[.agg #[.int .i64 t.op, .string t.pic, .bool t.sg, .int .i64 t.rd, .int .i64 t.rs1, .string t.no], .int .i64 W] w fun e w' => e = .returned (.tuple #[.agg #[.int .i64 0, .int .i64 0, .int .i64 0, .int .i64 0, .int .i64 0, .int .i64 0], .bool false]) ∧ Below w.heap.size w w' := by
  go_enter Tryz.func109, Tryz.ntmps109
  go_wp2_with fail
  refine (r_fits t.pic hs W hW _).mono ?_
  rintro e w1 ⟨rfl, rfl⟩
  rw [show (Pic.fits (Pic.rv t.pic.data.toList t.pic.size) W && (W / 2 ^ t.pic.size == 0)) = false from hf]
  go_wp2
  exact bodyPost_ret (v := .tuple #[.agg #[.int .i64 0, .int .i64 0, .int .i64 0, .int .i64 0, .int .i64 0, .int .i64 0], .bool false]) (by simp [results, Tryz.results109, go_sem]) rfl ⟨rfl, ((Below.refl _ _).alloc (Nat.le_refl _) _).alloc (by simp) _⟩
set_option maxHeartbeats 4000000 in
theorem r_read_no2 (t : TabR.Row) (hs : t.pic.size ≤ 32) (hl : ∀ x ∈ t.pic.data.toList, x.toNat ≤ 122) (hno : t.no.size ≤ 32) (W : Nat) (hW : W < 4294967296) (w : World) (hf : fitR t W = true)
    (HB : t.no.data.toList.any (barC (insR t W)) = true) :
    Calls Tryz.prog 109 #[.agg #[.int .i64 t.op, .string t.pic, .bool t.sg, .int .i64 t.rd, .int .i64 t.rs1, .string t.no], .int .i64 W] w fun e w' => e = .returned (.tuple #[.agg #[.int .i64 0, .int .i64 0, .int .i64 0, .int .i64 0, .int .i64 0, .int .i64 0], .bool false]) ∧ Below w.heap.size w w' := by
  have HL := hide hl
  go_enter Tryz.func109, Tryz.ntmps109
  go_wp2_with fail
  refine (r_fits t.pic hs W hW _).mono ?_
  rintro e w1 ⟨rfl, rfl⟩
  rw [show (Pic.fits (Pic.rv t.pic.data.toList t.pic.size) W && (W / 2 ^ t.pic.size == 0)) = true from hf]
  go_wp2_with fail
  refine (r_register_68 t.pic hs W hW t.rd _).mono ?_
  rintro e w1 ⟨rfl, rfl⟩
  go_wp2_with fail
  refine (r_register_83 t.pic hs W hW t.rs1 _).mono ?_
  rintro e w1 ⟨rfl, rfl⟩
  go_wp2_with fail
  refine (r_register_84 t.pic hs W hW 0 _).mono ?_
  rintro e w1 ⟨rfl, rfl⟩
  go_wp2_with fail
  refine (r_immediate t.op t.pic t.sg t.rd t.rs1 t.no hs hl W hW _).mono ?_
  rintro e w1 ⟨rfl, hb1⟩
  have hz := (RB.start t w _ _).more hb1
  clear hb1
  have hq : Hid (insR t W = ⟨t.op, regR (fun x => x == 68 || x == 66) t.pic W t.rd, regR (fun x => x == 83 || x == 66) t.pic W t.rs1, regR (fun x => x == 84) t.pic W 0, immR t.pic t.sg W, (t.pic.size : Int) / 8⟩) := rfl
  generalize regR (fun x => x == 68 || x == 66) t.pic W t.rd = v1 at hq ⊢
  generalize regR (fun x => x == 83 || x == 66) t.pic W t.rs1 = v2 at hq ⊢
  generalize regR (fun x => x == 84) t.pic W 0 = v3 at hq ⊢
  generalize immR t.pic t.sg W = v4 at hq ⊢
  have r0 := hz.r0
  have r1 := hz.r1
  have r2 := hz.r2
  have r3 := hz.r3
  have r4 := hz.r4
  have r5 := hz.r5
  have l1 : w.heap.size < w1.heap.size := by have := hz.lt; omega
  go_wp2_with fail
  refine (r_barred t.op t.pic t.sg t.rd t.rs1 t.no hno ⟨t.op, v1, v2, v3, v4, (t.pic.size : Int) / 8⟩ _).mono ?_
  rintro e w2 ⟨rfl, hb2⟩
  rw [← hq.out, HB]
  replace hz := (hz.alloc _).more hb2
  have x0 := (hb2.cell (p := ⟨w1.heap.size, 0, none⟩) (by simp)).trans (by simp : _ = some (.int .i64 t.op))
  have x1 := (hb2.cell (p := ⟨w1.heap.size, 1, none⟩) (by simp)).trans (by simp : _ = some (.int .i64 v1))
  have x2 := (hb2.cell (p := ⟨w1.heap.size, 2, none⟩) (by simp)).trans (by simp : _ = some (.int .i64 v2))
  have x3 := (hb2.cell (p := ⟨w1.heap.size, 3, none⟩) (by simp)).trans (by simp : _ = some (.int .i64 v3))
  have x4 := (hb2.cell (p := ⟨w1.heap.size, 4, none⟩) (by simp)).trans (by simp : _ = some (.int .i64 v4))
  have x5 := (hb2.cell (p := ⟨w1.heap.size, 5, none⟩) (by simp)).trans (by simp : _ = some (.int .i64 ((t.pic.size : Int) / 8)))
  clear hb2 r0 r1 r2 r3 r4 r5 l1
  have z0 := hz.z0
  have z1 := hz.z1
  have z2 := hz.z2
  have z3 := hz.z3
  have z4 := hz.z4
  have z5 := hz.z5
  have zf := hz.fro
  go_wp2
  exact bodyPost_ret (v := .tuple #[.agg #[.int .i64 0, .int .i64 0, .int .i64 0, .int .i64 0, .int .i64 0, .int .i64 0], .bool false]) (by simp [results, Tryz.results109, go_sem, z0, z1, z2, z3, z4, z5]) rfl ⟨rfl, below6 hz.below _ (by omega) _ _ _ _ _ _⟩
set_option maxHeartbeats 4000000 in
theorem r_read_yes (t : TabR.Row) (hs : t.pic.size ≤ 32) (hl : ∀ x ∈ t.pic.data.toList, x.toNat ≤ 122) (hno : t.no.size ≤ 32) (W : Nat) (hW : W < 4294967296) (w : World) (hf : fitR t W = true)
    (HB : t.no.data.toList.any (barC (insR t W)) = false) :
    Calls Tryz.prog 109 #[.agg #[.int .i64 t.op, .string t.pic, .bool t.sg, .int .i64 t.rd, .int .i64 t.rs1, .string t.no], .int .i64 W] w fun e w' => e = .returned (.tuple #[insV (insR t W), .bool true]) ∧ Below w.heap.size w w' := by
  have HL := hide hl
  go_enter Tryz.func109, Tryz.ntmps109
  go_wp2_with fail
  refine (r_fits t.pic hs W hW _).mono ?_
  rintro e w1 ⟨rfl, rfl⟩
  rw [show (Pic.fits (Pic.rv t.pic.data.toList t.pic.size) W && (W / 2 ^ t.pic.size == 0)) = true from hf]
  go_wp2_with fail
  refine (r_register_68 t.pic hs W hW t.rd _).mono ?_
  rintro e w1 ⟨rfl, rfl⟩
  go_wp2_with fail
  refine (r_register_83 t.pic hs W hW t.rs1 _).mono ?_
  rintro e w1 ⟨rfl, rfl⟩
  go_wp2_with fail
  refine (r_register_84 t.pic hs W hW 0 _).mono ?_
  rintro e w1 ⟨rfl, rfl⟩
  go_wp2_with fail
  refine (r_immediate t.op t.pic t.sg t.rd t.rs1 t.no hs hl W hW _).mono ?_
  rintro e w1 ⟨rfl, hb1⟩
  have hz := (RB.start t w _ _).more hb1
  clear hb1
  have hq : Hid (insR t W = ⟨t.op, regR (fun x => x == 68 || x == 66) t.pic W t.rd, regR (fun x => x == 83 || x == 66) t.pic W t.rs1, regR (fun x => x == 84) t.pic W 0, immR t.pic t.sg W, (t.pic.size : Int) / 8⟩) := rfl
  generalize regR (fun x => x == 68 || x == 66) t.pic W t.rd = v1 at hq ⊢
  generalize regR (fun x => x == 83 || x == 66) t.pic W t.rs1 = v2 at hq ⊢
  generalize regR (fun x => x == 84) t.pic W 0 = v3 at hq ⊢
  generalize immR t.pic t.sg W = v4 at hq ⊢
  have r0 := hz.r0
  have r1 := hz.r1
  have r2 := hz.r2
  have r3 := hz.r3
  have r4 := hz.r4
  have r5 := hz.r5
  have l1 : w.heap.size < w1.heap.size := by have := hz.lt; omega
  go_wp2_with fail
  refine (r_barred t.op t.pic t.sg t.rd t.rs1 t.no hno ⟨t.op, v1, v2, v3, v4, (t.pic.size : Int) / 8⟩ _).mono ?_
  rintro e w2 ⟨rfl, hb2⟩
  rw [← hq.out, HB]
  replace hz := (hz.alloc _).more hb2
  have x0 := (hb2.cell (p := ⟨w1.heap.size, 0, none⟩) (by simp)).trans (by simp : _ = some (.int .i64 t.op))
  have x1 := (hb2.cell (p := ⟨w1.heap.size, 1, none⟩) (by simp)).trans (by simp : _ = some (.int .i64 v1))
  have x2 := (hb2.cell (p := ⟨w1.heap.size, 2, none⟩) (by simp)).trans (by simp : _ = some (.int .i64 v2))
  have x3 := (hb2.cell (p := ⟨w1.heap.size, 3, none⟩) (by simp)).trans (by simp : _ = some (.int .i64 v3))
  have x4 := (hb2.cell (p := ⟨w1.heap.size, 4, none⟩) (by simp)).trans (by simp : _ = some (.int .i64 v4))
  have x5 := (hb2.cell (p := ⟨w1.heap.size, 5, none⟩) (by simp)).trans (by simp : _ = some (.int .i64 ((t.pic.size : Int) / 8)))
  clear hb2 r0 r1 r2 r3 r4 r5 l1
  have z0 := hz.z0
  have z1 := hz.z1
  have z2 := hz.z2
  have z3 := hz.z3
  have z4 := hz.z4
  have z5 := hz.z5
  have zf := hz.fro
  go_wp2
  refine bodyPost_ret (v := .tuple #[.agg #[.int .i64 t.op, .int .i64 v1, .int .i64 v2, .int .i64 v3, .int .i64 v4, .int .i64 ((t.pic.size : Int) / 8)], .bool true]) (by simp [results, Tryz.results109, go_sem, z0, z1, z2, z3, z4, z5]) rfl ⟨by rw [hq.out]; rfl, below6 hz.below _ (by omega) _ _ _ _ _ _⟩
theorem r_read (t : TabR.Row) (hs : t.pic.size ≤ 32) (hl : ∀ x ∈ t.pic.data.toList, x.toNat ≤ 122) (hno : t.no.size ≤ 32) (W : Nat) (hW : W < 4294967296) (w : World) :
    Calls Tryz.prog 109 #[rowR t, .int .i64 W] w fun e w' => e = .returned (.tuple #[insV (if readR t W = true then insR t W else ins0), .bool (readR t W)]) ∧ Below w.heap.size w w' := by
  unfold readR
  cases hf : fitR t W
  · exact r_read_no1 t hs W hW w hf
  · cases HB : t.no.data.toList.any (barC (insR t W))
    · exact r_read_yes t hs hl hno W hW w hf HB
    · exact r_read_no2 t hs hl hno W hW w hf HB
end Go.Proofs.YthfofjkfbhahoaaGreatDoor
end
