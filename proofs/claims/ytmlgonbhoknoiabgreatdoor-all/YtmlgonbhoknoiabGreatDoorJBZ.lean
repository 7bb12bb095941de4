import Derived.Test.YtmlgonbhoknoiabGreatDoorCards
import Derived.Test.YtmlgonbhoknoiabGreatDoorTie
import Derived.Test.YtmlgonbhoknoiabGreatDoorJBV
import Derived.Test.YtmlgonbhoknoiabGreatDoorJBW
import Derived.Test.YtmlgonbhoknoiabGreatDoorJBX
import Derived.Test.YtmlgonbhoknoiabGreatDoorJBY
set_option maxHeartbeats 8000000
set_option maxRecDepth 100000
set_option linter.all false
namespace Go.Proofs.YtmlgonbhoknoiabGreatDoor
open Go.RowKit Go.Proofs.Tryz
section
open Go
theorem all_card :Rows.AllCardSaid:=
 Claim7.holds_tied_plain_at .later [] [.data,.data,.data] true (true, "7959aec3c999f8f1cf8ade6463e783772d648c9ef47d923875839f4dba7eb0ba") false
  Pa (fun _ a=>by cases a) Pc (fun _ a=>by cases a) all_row_tie rfl ⟨rfl,rfl⟩ Qa rfl
  (fun d e g h=>by
    obtain rfl:d=12:=h6 ((show prog.funcNamed "machine/machinelaw.All" =some 12 by kernel_rfl).symm.trans g) |>.symm
    obtain rfl:e=Tryz.f12:=(h6 (func12.symm.trans h)).symm
    exact⟨P9,fun k b c=>by
     rw[Tryz.params12]at c
     have i:b∈ [26]:=by simpa using Array.mem_of_getElem? c
     have f:([26].all fun j=>!prog.wantsStandIn j)=true:=by kernel_rfl
     exact(show prog.wantsStandIn b=false by simpa using List.all_eq_true.1 f b i)⟩)
  O5
end
end Go.Proofs.YtmlgonbhoknoiabGreatDoor
