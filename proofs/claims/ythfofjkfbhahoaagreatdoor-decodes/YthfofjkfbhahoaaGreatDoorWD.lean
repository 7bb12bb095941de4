import Derived.Test.YthfofjkfbhahoaaGreatDoorZD
import Derived.Test.YthfofjkfbhahoaaGreatDoorCards
import Derived.Test.YthfofjkfbhahoaaGreatDoorTie
import Derived.SevenTiedAt
namespace Go.Proofs.YthfofjkfbhahoaaGreatDoor
open Go
set_option maxRecDepth 100000 in
theorem decodes_card : Rows.DecodesCardSaid :=
  Claim7.holds_tied_plain_at .later [] [.data, .data, .data] true (true, "454fd08a8281d704566ea47ad03d815d5ffc2b2b325c0120eabece6542622dd2") false
    decodes_said (fun _ h => by cases h) (by kernel_rfl) (fun _ h => by cases h) decodes_row_tie rfl ⟨rfl, rfl⟩ (by kernel_rfl) rfl
    (fun f fn hf hfn => by
      obtain rfl : f = 3 := Option.some.inj ((show Tryz.prog.funcNamed "machine/machinelaw.Decodes" = some 3 by kernel_rfl).symm.trans hf) |>.symm
      obtain rfl : fn = Tryz.f3 := (Option.some.inj (Tryz.func3.symm.trans hfn)).symm
      exact ⟨by kernel_rfl, fun j t ht => by
        rw [Tryz.params3] at ht
        have hm : t ∈ [22] := by simpa using Array.mem_of_getElem? ht
        have hall : ([22].all fun u => !Tryz.prog.wantsStandIn u) = true := by kernel_rfl
        exact (show Tryz.prog.wantsStandIn t = false by simpa using List.all_eq_true.1 hall t hm)⟩)
    (by kernel_rfl)
#print axioms decodes_card
end Go.Proofs.YthfofjkfbhahoaaGreatDoor
