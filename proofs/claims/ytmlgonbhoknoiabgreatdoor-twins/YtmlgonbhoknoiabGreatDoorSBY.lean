import Derived.Test.YtmlgonbhoknoiabGreatDoorCards
import Derived.Test.YtmlgonbhoknoiabGreatDoorTie
import Derived.Test.YtmlgonbhoknoiabGreatDoorSBU
import Derived.Test.YtmlgonbhoknoiabGreatDoorSBV
import Derived.Test.YtmlgonbhoknoiabGreatDoorSBW
import Derived.Test.YtmlgonbhoknoiabGreatDoorSBX
set_option maxHeartbeats 8000000
set_option linter.all false
namespace Go.Proofs.YtmlgonbhoknoiabGreatDoor
open Go.RowKit Go.Proofs.Tryz
section
open Go
set_option maxRecDepth 100000 in
theorem twins_card : Rows.TwinsCardSaid :=
 Claim7.holds_tied_plain_at .later [] [.data, .data, .data] true (true, "7959aec3c999f8f1cf8ade6463e783772d648c9ef47d923875839f4dba7eb0ba") false
  twins_said (fun _ h => by cases h) twins_wf (fun _ h => by cases h) twins_row_tie rfl ⟨rfl, rfl⟩ card_main rfl
  (fun f fn hf hfn => by
    obtain rfl : f = 10 := Option.some.inj ((show prog.funcNamed "machine/machinekeep.Twins" = some 10 by kernel_rfl).symm.trans hf) |>.symm
    obtain rfl : fn = Tryz.f10 := (Option.some.inj (func10.symm.trans hfn)).symm
    exact ⟨card_looks, fun j t ht => by
     rw [Tryz.params10] at ht
     have hm : t ∈ [22] := by simpa using Array.mem_of_getElem? ht
     have hall : ([22].all fun u => !prog.wantsStandIn u) = true := by kernel_rfl
     exact (show prog.wantsStandIn t = false by simpa using List.all_eq_true.1 hall t hm)⟩)
  twins_goes
end
end Go.Proofs.YtmlgonbhoknoiabGreatDoor
