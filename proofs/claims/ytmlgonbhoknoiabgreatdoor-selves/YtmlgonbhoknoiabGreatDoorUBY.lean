import Derived.Test.YtmlgonbhoknoiabGreatDoorCards
import Derived.Test.YtmlgonbhoknoiabGreatDoorTie
import Derived.Test.YtmlgonbhoknoiabGreatDoorUBU
import Derived.Test.YtmlgonbhoknoiabGreatDoorUBV
import Derived.Test.YtmlgonbhoknoiabGreatDoorUBW
import Derived.Test.YtmlgonbhoknoiabGreatDoorUBX
set_option maxHeartbeats 8000000
set_option linter.all false
namespace Go.Proofs.YtmlgonbhoknoiabGreatDoor
open Go.RowKit Go.Proofs.Tryz
section
open Go
set_option maxRecDepth 100000 in
theorem selves_card : Rows.SelvesCardSaid :=
 Claim7.holds_tied_plain_at .later [] [.data, .data, .data] true (true, "7959aec3c999f8f1cf8ade6463e783772d648c9ef47d923875839f4dba7eb0ba") false
  selves_said (fun _ h => by cases h) selves_wf (fun _ h => by cases h) selves_row_tie rfl ⟨rfl, rfl⟩ card_main rfl
  (fun f fn hf hfn => by
    obtain rfl : f = 7 := Option.some.inj ((show prog.funcNamed "machine/machinekeep.Selves" = some 7 by kernel_rfl).symm.trans hf) |>.symm
    obtain rfl : fn = Tryz.f7 := (Option.some.inj (func7.symm.trans hfn)).symm
    exact ⟨card_looks, fun j t ht => by
     rw [Tryz.params7] at ht
     have hm : t ∈ [22] := by simpa using Array.mem_of_getElem? ht
     have hall : ([22].all fun u => !prog.wantsStandIn u) = true := by kernel_rfl
     exact (show prog.wantsStandIn t = false by simpa using List.all_eq_true.1 hall t hm)⟩)
  selves_goes
end
end Go.Proofs.YtmlgonbhoknoiabGreatDoor
