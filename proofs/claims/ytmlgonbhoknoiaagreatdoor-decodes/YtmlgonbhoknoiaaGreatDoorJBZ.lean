import Derived.Test.YtmlgonbhoknoiaaGreatDoorCards
import Derived.Test.YtmlgonbhoknoiaaGreatDoorTie
import Derived.Test.YtmlgonbhoknoiaaGreatDoorJBV
import Derived.Test.YtmlgonbhoknoiaaGreatDoorJBW
import Derived.Test.YtmlgonbhoknoiaaGreatDoorJBX
import Derived.Test.YtmlgonbhoknoiaaGreatDoorJBY
set_option maxHeartbeats 8000000
set_option maxRecDepth 100000
set_option linter.all false
namespace Go.Proofs.YtmlgonbhoknoiaaGreatDoor
open Go.RowKit Go.Proofs.Tryz
section
open Go
theorem decodes_card :Rows.DecodesCardSaid:=
 Claim7.holds_tied_plain_at .later [] [.data,.data,.data] true (true, "ec44218dc01cf5e969531c2aae00b79bc5c657b0f79820b2c48c4db509d0d3ad") false
  P7 (fun _ a=>by cases a) P9 (fun _ a=>by cases a) decodes_row_tie rfl ⟨rfl,rfl⟩ kF rfl
  (fun d e g h=>by
    obtain rfl:d=3:=dr ((show prog.funcNamed "machine/machinelaw.Decodes" =some 3 by kernel_rfl).symm.trans g) |>.symm
    obtain rfl:e=Tryz.f3:=(dr (func3.symm.trans h)).symm
    exact⟨kE,fun k b c=>by
     rw[Tryz.params3]at c
     have i:b∈ [22]:=by simpa using Array.mem_of_getElem? c
     have f:([22].all fun j=>!prog.wantsStandIn j)=true:=by kernel_rfl
     exact(show prog.wantsStandIn b=false by simpa using List.all_eq_true.1 f b i)⟩)
  P2
end
end Go.Proofs.YtmlgonbhoknoiaaGreatDoor
