import Derived.Test.YtmlgonbhoknoiabGreatDoorXAV
set_option maxHeartbeats 8000000
set_option linter.all false
namespace Go.Proofs.YtmlgonbhoknoiabGreatDoor
open Go.RowKit Go.Proofs.Tryz
section
attribute [local go_sem ↓] Go.wp_at_zero Go.wp_at_succ
theorem pl_low (n : Nat) (h : n <= 4294967295) : bits .and .i64 (n : Int) 4095 = ((n % 4096 : Nat) : Int) := by
 have := b_and n 4095 (by omega) (by decide)
 rw [show n &&& 4095 = n % 4096 from Nat.and_two_pow_sub_one_eq_mod n 12] at this
 exact this
end
end Go.Proofs.YtmlgonbhoknoiabGreatDoor
