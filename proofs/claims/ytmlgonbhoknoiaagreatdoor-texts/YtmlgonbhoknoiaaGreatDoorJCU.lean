import Derived.Test.YtmlgonbhoknoiaaGreatDoorCards
import Derived.Test.YtmlgonbhoknoiaaGreatDoorTie
import Derived.Test.YtmlgonbhoknoiaaGreatDoorJBW
import Derived.Test.YtmlgonbhoknoiaaGreatDoorJBX
import Derived.Test.YtmlgonbhoknoiaaGreatDoorJCS
import Derived.Test.YtmlgonbhoknoiaaGreatDoorJCT
set_option maxHeartbeats 8000000
set_option maxRecDepth 100000
set_option linter.all false
namespace Go.Proofs.YtmlgonbhoknoiaaGreatDoor
open Go.RowKit Go.Proofs.Tryz
section
open Go
theorem texts_card :Rows.TextsCardSaid:=
 Claim7.holds_tied_plain_at .later [] [.data,.data,.data] true (true, "ec44218dc01cf5e969531c2aae00b79bc5c657b0f79820b2c48c4db509d0d3ad") false
  aaG (fun _ a=>by cases a) aaI (fun _ a=>by cases a) texts_row_tie rfl ⟨rfl,rfl⟩ kF rfl
  (fun d e g h=>by
    obtain rfl:d=6:=dr ((show prog.funcNamed "machine/machinelaw.Texts" =some 6 by kernel_rfl).symm.trans g) |>.symm
    obtain rfl:e=Tryz.f6:=(dr (func6.symm.trans h)).symm
    exact⟨kE,fun k b c=>by
     rw[Tryz.params6]at c
     have i:b∈ [22]:=by simpa using Array.mem_of_getElem? c
     have f:([22].all fun j=>!prog.wantsStandIn j)=true:=by kernel_rfl
     exact(show prog.wantsStandIn b=false by simpa using List.all_eq_true.1 f b i)⟩)
  aaB
end
end Go.Proofs.YtmlgonbhoknoiaaGreatDoor
