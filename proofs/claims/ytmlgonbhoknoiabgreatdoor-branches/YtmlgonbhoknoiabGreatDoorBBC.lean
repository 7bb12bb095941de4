import Derived.Test.YtmlgonbhoknoiabGreatDoorBAV
import Derived.Test.YtmlgonbhoknoiabGreatDoorBAZ
set_option maxHeartbeats 8000000
set_option linter.all false
namespace Go.Proofs.YtmlgonbhoknoiabGreatDoor
open Go.RowKit Go.Proofs.Tryz
section
attribute [local go_sem ↓] Go.wp_at_zero Go.wp_at_succ
theorem w64 (a : Nat) (h : a < 4294967296) : wrap64 (a : Int) = (a : Int) := by
 unfold wrap64
 omega
theorem le_val (a b c d : Nat) (ha : a < 256) (hb : b < 256) (hc : c < 256) (hd : d < 256) : ∃ v : Nat, v < 4294967296 /\ bits .or .i64 (bits .or .i64 (bits .or .i64 (wrap64 a) (wrap64 (wrap64 b * 256))) (wrap64 (wrap64 c * 65536))) (wrap64 (wrap64 d * 16777216)) = (v : Int) := by
 have e1 : wrap64 (wrap64 (b : Int) * 256) = ((b * 256 : Nat) : Int) := by rw [w64 b (by omega), <- w64 (b * 256) (by omega)]; simp
 have e2 : wrap64 (wrap64 (c : Int) * 65536) = ((c * 65536 : Nat) : Int) := by rw [w64 c (by omega), <- w64 (c * 65536) (by omega)]; simp
 have e3 : wrap64 (wrap64 (d : Int) * 16777216) = ((d * 16777216 : Nat) : Int) := by rw [w64 d (by omega), <- w64 (d * 16777216) (by omega)]; simp
 have q1 : a ||| b * 256 < 2 ^ 32 := Nat.or_lt_two_pow (by omega) (by omega)
 have q2 : a ||| b * 256 ||| c * 65536 < 2 ^ 32 := Nat.or_lt_two_pow q1 (by omega)
 have q3 : a ||| b * 256 ||| c * 65536 ||| d * 16777216 < 2 ^ 32 := Nat.or_lt_two_pow q2 (by omega)
 refine ⟨_, q3, ?_⟩
 rw [e1, e2, e3, w64 a (by omega), b_or _ _ (by omega) (by omega), b_or _ _ (by omega) (by omega), b_or _ _ (by omega) (by omega)]
set_option maxRecDepth 100000 in
theorem k_leB (s : ByteArray) (n : Nat) (h : n + 4 <= s.size) (hs : s.size <= 100000) (w : World) : Calls prog 145 #[.string s, .int .i64 n] w fun o w' => (∃ v : Nat, v < 4294967296 /\ o = .returned (.int .i64 v)) /\ Kept [] w w' := by
 have i0 : n < s.size := by omega
 have i1 : n + 1 < s.size := by omega
 have i2 : n + 2 < s.size := by omega
 have i3 : n + 3 < s.size := by omega
 have w1 : IntKind.i64.wrap ((n : Int) + 1) = (n : Int) + 1 := zq114
 have w2 : IntKind.i64.wrap ((n : Int) + 2) = (n : Int) + 2 := zq114
 have w3 : IntKind.i64.wrap ((n : Int) + 3) = (n : Int) + 3 := zq114
 have j0 : (0 : Int) <= (n : Int) /\ (n : Int) < (s.size : Int) := by omega
 have j1 : (0 : Int) <= (n : Int) + 1 /\ (n : Int) + 1 < (s.size : Int) := by omega
 have j2 : (0 : Int) <= (n : Int) + 2 /\ (n : Int) + 2 < (s.size : Int) := by omega
 have j3 : (0 : Int) <= (n : Int) + 3 /\ (n : Int) + 3 < (s.size : Int) := by omega
 go_enter func145, ntmps145
 go_upto_region 1 with fail
 go_region
 all_goals
  go_wp2_with fail
  go_ret
  refine ⟨?_, (Kept.refl _ _).drew⟩
  obtain ⟨v, hv, e⟩ := le_val (s[n].toNat) (s[n + 1].toNat) (s[n + 2].toNat) (s[n + 3].toNat) (s[n].toNat_lt) (s[n + 1].toNat_lt) (s[n + 2].toNat_lt) (s[n + 3].toNat_lt)
  exact ⟨v, hv, congrArg (fun x => Ending.returned (Value.int .i64 x)) e⟩
end
end Go.Proofs.YtmlgonbhoknoiabGreatDoor
