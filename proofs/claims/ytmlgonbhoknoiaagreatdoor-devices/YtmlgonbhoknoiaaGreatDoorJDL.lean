import Derived.Test.YtmlgonbhoknoiaaGreatDoorRows
import Derived.Test.YtmlgonbhoknoiaaGreatDoorJQ
set_option maxHeartbeats 8000000
set_option maxRecDepth 100000
set_option linter.all false
namespace Go.Proofs.YtmlgonbhoknoiaaGreatDoor
open Go.RowKit Go.Proofs.Tryz
section
open Go
def Qf :(Rows.devicesRow.recurses==prog.recurses 9)=true:=by
 have a:prog.recurses 9=true:=by
  unfold Program.recurses;rw[cR];exact .inr (List.any_eq_true.2 ⟨415,List.contains_iff_mem.1 (by kernel_rfl),by kernel_rfl⟩)
 rw[a];rfl
end
end Go.Proofs.YtmlgonbhoknoiaaGreatDoor
