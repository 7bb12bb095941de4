import Derived.Test.YtmlgonbhoknoiabGreatDoorXAM
set_option maxHeartbeats 8000000
set_option linter.all false
namespace Go.Proofs.YtmlgonbhoknoiabGreatDoor
open Go.RowKit Go.Proofs.Tryz
section
attribute [local go_sem ↓] Go.wp_at_zero Go.wp_at_succ
set_option maxRecDepth 100000 in
theorem k_multiplies (mb rb : Nat) (a b : Int) (a0 : 0 <= a) (a1 : a < 4294967296) (b0 : 0 <= b) (b1 : b < 4294967296) (w : World) (hw : Hid (Mx w mb rb)) : Calls prog 93 #[.pointer (some ⟨mb, 0, none⟩), .int .i64 a, .int .i64 b] w fun o w' => BoolR o /\ w' = w := by
 have RG := hide1 (fun i => k_reg mb rb i w hw)
 go_enter func93, ntmps93
 exact zq387
set_option maxRecDepth 100000 in
theorem k_forms (mb rb : Nat) (a b : Int) (w : World) (hw : Hid (Mx w mb rb)) : Calls prog 99 #[.pointer (some ⟨mb, 0, none⟩), .int .i64 a, .int .i64 b] w fun o w' => BoolR o /\ w' = w := by
 have RG := hide1 (fun i => k_reg mb rb i w hw)
 go_enter func99, ntmps99
 exact zq387
set_option maxRecDepth 100000 in
theorem k_bitwise (mb rb : Nat) (a b : Int) (a0 : 0 <= a) (a1 : a < 4294967296) (b0 : 0 <= b) (b1 : b < 4294967296) (w : World) (hw : Hid (Mx w mb rb)) : Calls prog 94 #[.pointer (some ⟨mb, 0, none⟩), .int .i64 a, .int .i64 b] w fun o w' => BoolR o /\ w' = w := by
 have RG := hide1 (fun i => k_reg mb rb i w hw)
 have MI := hide1 (fun x h0 h1 => k_minus x h0 h1 w)
 go_enter func94, ntmps94
 exact zq386
end
end Go.Proofs.YtmlgonbhoknoiabGreatDoor
