import Derived.Test.YtmlgonbhoknoiabGreatDoorWAN
set_option maxHeartbeats 8000000
set_option maxRecDepth 100000
set_option linter.all false
namespace Go.Proofs.YtmlgonbhoknoiabGreatDoor
open Go.RowKit Go.Proofs.Tryz
section
attribute [local go_sem ↓] Go.wp_at_zero Go.wp_at_succ
theorem k_multiplies (mb rb : Nat) (a b : Int) (a0 : 0 <= a) (a1 : a < 4294967296) (b0 : 0 <= b) (b1 : b < 4294967296) (w : World) (hw : Hid (Mx w mb rb)) : Calls prog 93 #[.pointer (some ⟨mb, 0, none⟩), .int .i64 a, .int .i64 b] w fun o w' => BoolR o /\ w' = w := by
 have RG := hide1 (fun i => k_reg mb rb i w hw)
 go_enter func93, ntmps93
 exact zq381
theorem k_forms (mb rb : Nat) (a b : Int) (w : World) (hw : Hid (Mx w mb rb)) : Calls prog 99 #[.pointer (some ⟨mb, 0, none⟩), .int .i64 a, .int .i64 b] w fun o w' => BoolR o /\ w' = w := by
 have RG := hide1 (fun i => k_reg mb rb i w hw)
 go_enter func99, ntmps99
 exact zq381
theorem k_bitwise (mb rb : Nat) (a b : Int) (a0 : 0 <= a) (a1 : a < 4294967296) (b0 : 0 <= b) (b1 : b < 4294967296) (w : World) (hw : Hid (Mx w mb rb)) : Calls prog 94 #[.pointer (some ⟨mb, 0, none⟩), .int .i64 a, .int .i64 b] w fun o w' => BoolR o /\ w' = w := by
 have RG := hide1 (fun i => k_reg mb rb i w hw)
 have MI := hide1 (fun x h0 h1 => k_minus x h0 h1 w)
 go_enter func94, ntmps94
 exact zq380
theorem k_le (s : ByteArray) (n : Nat) (h : n + 4 <= s.size) (hs : s.size <= 100000) (w : World) : Calls prog 145 #[.string s, .int .i64 n] w fun o w' => (∃ v : Int, o = .returned (.int .i64 v)) /\ Kept [] w w' := by
 have i0 : n < s.size := by omega
 have i1 : n + 1 < s.size := by omega
 have i2 : n + 2 < s.size := by omega
 have i3 : n + 3 < s.size := by omega
 have w1 : IntKind.i64.wrap ((n : Int) + 1) = (n : Int) + 1 := zq115
 have w2 : IntKind.i64.wrap ((n : Int) + 2) = (n : Int) + 2 := zq115
 have w3 : IntKind.i64.wrap ((n : Int) + 3) = (n : Int) + 3 := zq115
 have j0 : (0 : Int) <= (n : Int) /\ (n : Int) < (s.size : Int) := by omega
 have j1 : (0 : Int) <= (n : Int) + 1 /\ (n : Int) + 1 < (s.size : Int) := by omega
 have j2 : (0 : Int) <= (n : Int) + 2 /\ (n : Int) + 2 < (s.size : Int) := by omega
 have j3 : (0 : Int) <= (n : Int) + 3 /\ (n : Int) + 3 < (s.size : Int) := by omega
 go_enter func145, ntmps145
 go_upto_region 1 with fail
 go_region
 all_goals
  go_wp2_with fail
  go_ret
  exact ⟨⟨_, rfl⟩, (Kept.refl _ _).drew⟩
theorem k_wordAt (mb rb z : Nat) (off : Int) (h0 : 0 <= off) (h1 : off + 4 <= z) (w : World) (hw : Hid (Mz w mb rb z)) : Calls prog 97 #[.pointer (some ⟨mb, 0, none⟩), .int .i64 off] w fun o w' => (∃ v : Int, o = .returned (.int .i64 v)) /\ Kept [] w w' := by
 have P := hide1 (m_Peek mb rb z off 4 (by decide) w hw.out)
 go_enter func97, ntmps97
 go_wp2_with fail
 refine P.out.mono ?_
 rintro o w1 ⟨⟨t, e, q0, q1, rfl⟩, rfl⟩
 have ht : t.size = 4 := by have := q0 (by omega) h0 h1; omega
 have L := hide1 (k_le t 0 (by omega) (by omega) w1)
 clear q0 q1 ht P
 go_wp2_with fail
 refine L.out.mono ?_
 rintro o w2 ⟨⟨v, rfl⟩, hk2⟩
 have HK := hide1 hk2
 clear hk2 L
 go_wp2_with fail
 go_ret
 exact ⟨⟨v, rfl⟩, HK.out⟩
end
end Go.Proofs.YtmlgonbhoknoiabGreatDoor
