import Derived.Test.YtmlgonbhoknoiabGreatDoorCards
import Derived.Test.YtmlgonbhoknoiabGreatDoorTie
import Derived.Test.YtmlgonbhoknoiabGreatDoorWBV
import Derived.Test.YtmlgonbhoknoiabGreatDoorWBW
import Derived.Test.YtmlgonbhoknoiabGreatDoorWBX
import Derived.Test.YtmlgonbhoknoiabGreatDoorWBY
set_option maxHeartbeats 8000000
set_option linter.all false
namespace Go.Proofs.YtmlgonbhoknoiabGreatDoor
open Go.RowKit Go.Proofs.Tryz
section
open Go
set_option maxRecDepth 100000 in
theorem walls_card : Rows.WallsCardSaid :=
 Claim7.holds_tied_plain_at .later [] [.data, .data, .data] true (true, "7959aec3c999f8f1cf8ade6463e783772d648c9ef47d923875839f4dba7eb0ba") false
  walls_said (fun _ h => by cases h) walls_wf (fun _ h => by cases h) walls_row_tie rfl ⟨rfl, rfl⟩ card_main rfl
  (fun f fn hf hfn => by
    obtain rfl : f = 9 := Option.some.inj ((show prog.funcNamed "machine/machinekeep.Walls" = some 9 by kernel_rfl).symm.trans hf) |>.symm
    obtain rfl : fn = Tryz.f9 := (Option.some.inj (func9.symm.trans hfn)).symm
    exact ⟨card_looks, fun j t ht => by
     rw [Tryz.params9] at ht
     have hm : t ∈ [22] := by simpa using Array.mem_of_getElem? ht
     have hall : ([22].all fun u => !prog.wantsStandIn u) = true := by kernel_rfl
     exact (show prog.wantsStandIn t = false by simpa using List.all_eq_true.1 hall t hm)⟩)
  walls_goes
end
end Go.Proofs.YtmlgonbhoknoiabGreatDoor
