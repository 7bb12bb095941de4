import Derived.Test.YtmlgonbhoknoiaaGreatDoorCards
import Derived.Test.YtmlgonbhoknoiaaGreatDoorTie
import Derived.Test.YtmlgonbhoknoiaaGreatDoorSBW
import Derived.Test.YtmlgonbhoknoiaaGreatDoorSBX
import Derived.Test.YtmlgonbhoknoiaaGreatDoorSCE
import Derived.Test.YtmlgonbhoknoiaaGreatDoorSCF
set_option maxHeartbeats 8000000
set_option linter.all false
namespace Go.Proofs.YtmlgonbhoknoiaaGreatDoor
open Go.RowKit Go.Proofs.Tryz
section
open Go
set_option maxRecDepth 100000 in
theorem known_card : Rows.KnownCardSaid :=
 Claim7.holds_tied_plain_at .later [] [.data, .data, .data] true (true, "ec44218dc01cf5e969531c2aae00b79bc5c657b0f79820b2c48c4db509d0d3ad") false
  known_said (fun _ h => by cases h) known_wf (fun _ h => by cases h) known_row_tie rfl ⟨rfl, rfl⟩ card_main rfl
  (fun f fn hf hfn => by
    obtain rfl : f = 12 := Option.some.inj ((show prog.funcNamed "machine/machinekeep.Known" = some 12 by kernel_rfl).symm.trans hf) |>.symm
    obtain rfl : fn = Tryz.f12 := (Option.some.inj (func12.symm.trans hfn)).symm
    exact ⟨card_looks, fun j t ht => by
     rw [Tryz.params12] at ht
     have hm : t ∈ [25] := by simpa using Array.mem_of_getElem? ht
     have hall : ([25].all fun u => !prog.wantsStandIn u) = true := by kernel_rfl
     exact (show prog.wantsStandIn t = false by simpa using List.all_eq_true.1 hall t hm)⟩)
  known_goes
end
end Go.Proofs.YtmlgonbhoknoiaaGreatDoor
