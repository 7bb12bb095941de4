import Derived.Test.YtmlgonbhoknoiaaGreatDoorCards
import Derived.Test.YtmlgonbhoknoiaaGreatDoorTie
import Derived.Test.YtmlgonbhoknoiaaGreatDoorMBS
import Derived.Test.YtmlgonbhoknoiaaGreatDoorMBT
import Derived.Test.YtmlgonbhoknoiaaGreatDoorMBU
import Derived.Test.YtmlgonbhoknoiaaGreatDoorMBV
set_option maxHeartbeats 8000000
set_option linter.all false
namespace Go.Proofs.YtmlgonbhoknoiaaGreatDoor
open Go.RowKit Go.Proofs.Tryz
section
open Go
set_option maxRecDepth 100000 in
theorem maths_card : Rows.MathsCardSaid :=
 Claim7.holds_tied_plain_at .later [] [.data, .data, .data] true (true, "ec44218dc01cf5e969531c2aae00b79bc5c657b0f79820b2c48c4db509d0d3ad") false
  maths_said (fun _ h => by cases h) maths_wf (fun _ h => by cases h) maths_row_tie rfl ⟨rfl, rfl⟩ card_main rfl
  (fun f fn hf hfn => by
    obtain rfl : f = 13 := Option.some.inj ((show prog.funcNamed "machine/machinekeep.Maths" = some 13 by kernel_rfl).symm.trans hf) |>.symm
    obtain rfl : fn = Tryz.f13 := (Option.some.inj (func13.symm.trans hfn)).symm
    exact ⟨card_looks, fun j t ht => by
     rw [Tryz.params13] at ht
     have hm : t ∈ [25] := by simpa using Array.mem_of_getElem? ht
     have hall : ([25].all fun u => !prog.wantsStandIn u) = true := by kernel_rfl
     exact (show prog.wantsStandIn t = false by simpa using List.all_eq_true.1 hall t hm)⟩)
  maths_goes
end
end Go.Proofs.YtmlgonbhoknoiaaGreatDoor
