import Derived.Test.YtmlgonbhoknoiabGreatDoorCards
import Derived.Test.YtmlgonbhoknoiabGreatDoorTie
import Derived.Test.YtmlgonbhoknoiabGreatDoorYAV
import Derived.Test.YtmlgonbhoknoiabGreatDoorYAW
import Derived.Test.YtmlgonbhoknoiabGreatDoorYAX
import Derived.Test.YtmlgonbhoknoiabGreatDoorYAY
set_option maxHeartbeats 8000000
set_option linter.all false
namespace Go.Proofs.YtmlgonbhoknoiabGreatDoor
open Go.RowKit Go.Proofs.Tryz
section
open Go
set_option maxRecDepth 100000 in
theorem watched_card : Rows.WatchedCardSaid :=
 Claim7.holds_tied_plain_at .later [] [.data, .data, .data] true (true, "7959aec3c999f8f1cf8ade6463e783772d648c9ef47d923875839f4dba7eb0ba") false
  watched_said (fun _ h => by cases h) watched_wf (fun _ h => by cases h) watched_row_tie rfl ⟨rfl, rfl⟩ card_main rfl
  (fun f fn hf hfn => by
    obtain rfl : f = 11 := Option.some.inj ((show prog.funcNamed "machine/machinekeep.Watched" = some 11 by kernel_rfl).symm.trans hf) |>.symm
    obtain rfl : fn = Tryz.f11 := (Option.some.inj (func11.symm.trans hfn)).symm
    exact ⟨card_looks, fun j t ht => by
     rw [Tryz.params11] at ht
     have hm : t ∈ [22] := by simpa using Array.mem_of_getElem? ht
     have hall : ([22].all fun u => !prog.wantsStandIn u) = true := by kernel_rfl
     exact (show prog.wantsStandIn t = false by simpa using List.all_eq_true.1 hall t hm)⟩)
  watched_goes
end
end Go.Proofs.YtmlgonbhoknoiabGreatDoor
