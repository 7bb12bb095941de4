import Derived.Test.YtmlgonbhoknoiaaGreatDoorCards
import Derived.Test.YtmlgonbhoknoiaaGreatDoorTie
import Derived.Test.YtmlgonbhoknoiaaGreatDoorJBW
import Derived.Test.YtmlgonbhoknoiaaGreatDoorJBX
import Derived.Test.YtmlgonbhoknoiaaGreatDoorJCE
import Derived.Test.YtmlgonbhoknoiaaGreatDoorJCF
set_option maxHeartbeats 8000000
set_option maxRecDepth 100000
set_option linter.all false
namespace Go.Proofs.YtmlgonbhoknoiaaGreatDoor
open Go.RowKit Go.Proofs.Tryz
section
open Go
theorem encodes_card :Rows.EncodesCardSaid:=
 Claim7.holds_tied_plain_at .later [] [.data,.data,.data] true (true, "ec44218dc01cf5e969531c2aae00b79bc5c657b0f79820b2c48c4db509d0d3ad") false
  Qu (fun _ a=>by cases a) Qw (fun _ a=>by cases a) encodes_row_tie rfl ⟨rfl,rfl⟩ kF rfl
  (fun d e g h=>by
    obtain rfl:d=4:=dr ((show prog.funcNamed "machine/machinelaw.Encodes" =some 4 by kernel_rfl).symm.trans g) |>.symm
    obtain rfl:e=Tryz.f4:=(dr (func4.symm.trans h)).symm
    exact⟨kE,fun k b c=>by
     rw[Tryz.params4]at c
     have i:b∈ [22]:=by simpa using Array.mem_of_getElem? c
     have f:([22].all fun j=>!prog.wantsStandIn j)=true:=by kernel_rfl
     exact(show prog.wantsStandIn b=false by simpa using List.all_eq_true.1 f b i)⟩)
  Qp
end
end Go.Proofs.YtmlgonbhoknoiaaGreatDoor
