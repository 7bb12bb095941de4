import Derived.Test.YtmlgonbhoknoiabGreatDoorWAN
set_option maxHeartbeats 8000000
set_option linter.all false
namespace Go.Proofs.YtmlgonbhoknoiabGreatDoor
open Go.RowKit Go.Proofs.Tryz
section
attribute [local go_sem ↓] Go.wp_at_zero Go.wp_at_succ
set_option maxRecDepth 100000 in
theorem k_divides (mb rb : Nat) (a b : Int) (a0 : 0 <= a) (a1 : a < 4294967296) (b0 : 0 <= b) (b1 : b < 4294967296) (w : World) (hw : Hid (Mx w mb rb)) : Calls prog 92 #[.pointer (some ⟨mb, 0, none⟩), .int .i64 a, .int .i64 b] w fun o w' => BoolR o /\ w' = w := by
 have RG := hide1 (fun i => k_reg mb rb i w hw)
 have MI := hide1 (fun x h0 h1 => k_minus x h0 h1 w)
 go_enter func92, ntmps92
 exact zq380
end
end Go.Proofs.YtmlgonbhoknoiabGreatDoor
