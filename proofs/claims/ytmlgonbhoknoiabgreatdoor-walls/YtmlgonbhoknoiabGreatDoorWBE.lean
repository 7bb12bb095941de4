import Derived.Test.YtmlgonbhoknoiabGreatDoorWAX
import Derived.Test.YtmlgonbhoknoiabGreatDoorWBB
set_option maxHeartbeats 8000000
set_option linter.all false
namespace Go.Proofs.YtmlgonbhoknoiabGreatDoor
open Go.RowKit Go.Proofs.Tryz
section
attribute [local go_sem ↓] Go.wp_at_zero Go.wp_at_succ
theorem w64 (a : Nat) (h : a < 4294967296) : wrap64 (a : Int) = (a : Int) := by
 unfold wrap64
 omega
theorem or_hi' (a u k : Nat) (h : a < 2 ^ k) (hu : u * 2 ^ k + a < 9223372036854775808) : bits .or .i64 (a : Int) ((u * 2 ^ k : Nat) : Int) = ((a + u * 2 ^ k : Nat) : Int) := by
 rw [b_or _ _ (by omega) (by omega), Nat.or_comm, Nat.mul_comm, <- Nat.two_pow_add_eq_or_of_lt h, Nat.add_comm]
def leW' (a b c d : Nat) : Nat := a + 256 * (b + 256 * (c + 256 * d))
theorem le_exact' (a b c d : Nat) (ha : a < 256) (hb : b < 256) (hc : c < 256) (hd : d < 256) : bits .or .i64 (bits .or .i64 (bits .or .i64 (wrap64 a) (wrap64 (wrap64 b * 256))) (wrap64 (wrap64 c * 65536))) (wrap64 (wrap64 d * 16777216)) = (leW' a b c d : Int) := by
 have w1 : wrap64 (wrap64 (b : Int) * 256) = ((b * 2 ^ 8 : Nat) : Int) := by rw [w64 b (by omega), <- w64 (b * 2 ^ 8) (by omega)]; simp
 have w2 : wrap64 (wrap64 (c : Int) * 65536) = ((c * 2 ^ 16 : Nat) : Int) := by rw [w64 c (by omega), <- w64 (c * 2 ^ 16) (by omega)]; simp
 have w3 : wrap64 (wrap64 (d : Int) * 16777216) = ((d * 2 ^ 24 : Nat) : Int) := by rw [w64 d (by omega), <- w64 (d * 2 ^ 24) (by omega)]; simp
 have e1 := or_hi' a b 8 (by omega) (by omega)
 have e2 := or_hi' (a + b * 2 ^ 8) c 16 (by omega) (by omega)
 have e3 := or_hi' (a + b * 2 ^ 8 + c * 2 ^ 16) d 24 (by omega) (by omega)
 rw [w1, w2, w3, w64 a (by omega), e1, e2, e3]
 unfold leW'; omega
def ldS (s : ByteArray) (n : Nat) : Nat := ldN ((s.data.toList.drop n).take 4)
theorem ldS_eq (s : ByteArray) (n : Nat) (h : n + 4 <= s.size) : ldS s n = leW' (s[n]'(by omega)).toNat (s[n + 1]'(by omega)).toNat (s[n + 2]'(by omega)).toNat (s[n + 3]'(by omega)).toNat := by
 have hl : s.data.toList.length = s.size := by simp
 unfold ldS
 rw [show (s.data.toList.drop n).take 4 = [s[n]'(by omega), s[n + 1]'(by omega), s[n + 2]'(by omega), s[n + 3]'(by omega)] from ?_]
 . unfold leW'; simp [ldN]
 . apply List.ext_getElem?
   intro i
   rw [List.getElem?_take]
   by_cases hi : i < 4
   . rw [if_pos hi, List.getElem?_drop, List.getElem?_eq_getElem (by omega)]
     have : i = 0 \/ i = 1 \/ i = 2 \/ i = 3 := by omega
     rcases this with rfl | rfl | rfl | rfl <;> rfl
   . rw [if_neg hi, List.getElem?_eq_none (by simp; omega)]
theorem ldS_lt (s : ByteArray) (n : Nat) : ldS s n < 4294967296 := by
 unfold ldS
 have h := ldN_lt ((s.data.toList.drop n).take 4)
 have h2 : 256 ^ ((s.data.toList.drop n).take 4).length <= 256 ^ 4 := Nat.pow_le_pow_right (by omega) (by simp; omega)
 omega
set_option maxRecDepth 100000 in
theorem k_leB (s : ByteArray) (n : Nat) (h : n + 4 <= s.size) (hs : s.size <= 100000) (v : Nat) (hv : ldS s n = v) (w : World) : CK 145 #[.string s, .int .i64 n] (.int .i64 v) w := by
 have EX : Hid (bits .or .i64 (bits .or .i64 (bits .or .i64 (wrap64 ((s[n]'(by omega)).toNat : Int)) (wrap64 (wrap64 ((s[n + 1]'(by omega)).toNat : Int) * 256))) (wrap64 (wrap64 ((s[n + 2]'(by omega)).toNat : Int) * 65536))) (wrap64 (wrap64 ((s[n + 3]'(by omega)).toNat : Int) * 16777216)) = (v : Int)) := hide1 (by rw [<- hv, ldS_eq s n h]; exact le_exact' _ _ _ _ (UInt8.toNat_lt _) (UInt8.toNat_lt _) (UInt8.toNat_lt _) (UInt8.toNat_lt _))
 clear hv
 have i0 : n < s.size := by omega
 have i1 : n + 1 < s.size := by omega
 have i2 : n + 2 < s.size := by omega
 have i3 : n + 3 < s.size := by omega
 have w1 : IntKind.i64.wrap ((n : Int) + 1) = (n : Int) + 1 := zq115
 have w2 : IntKind.i64.wrap ((n : Int) + 2) = (n : Int) + 2 := zq115
 have w3 : IntKind.i64.wrap ((n : Int) + 3) = (n : Int) + 3 := zq115
 have j0 : (0 : Int) <= (n : Int) /\ (n : Int) < (s.size : Int) := by omega
 have j1 : (0 : Int) <= (n : Int) + 1 /\ (n : Int) + 1 < (s.size : Int) := by omega
 have j2 : (0 : Int) <= (n : Int) + 2 /\ (n : Int) + 2 < (s.size : Int) := by omega
 have j3 : (0 : Int) <= (n : Int) + 3 /\ (n : Int) + 3 < (s.size : Int) := by omega
 go_enter func145, ntmps145
 go_upto_region 1 with fail
 go_region
 all_goals
  go_wp2_with fail
  go_ret
  refine ⟨?_, (Kept.refl _ _).drew⟩
  exact congrArg (fun x => Ending.returned (Value.int .i64 x)) EX.out
end
end Go.Proofs.YtmlgonbhoknoiabGreatDoor
