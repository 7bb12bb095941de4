import Derived.Test.YtmlgonbhoknoiabGreatDoorRows
import Derived.Test.YtmlgonbhoknoiabGreatDoorJQ
set_option maxHeartbeats 8000000
set_option maxRecDepth 100000
set_option linter.all false
namespace Go.Proofs.YtmlgonbhoknoiabGreatDoor
open Go.RowKit Go.Proofs.Tryz
section
open Go
def O9 :(Rows.allRow.recurses==prog.recurses 12)=true:=by
 have a:prog.recurses 12=true:=by
  unfold Program.recurses;rw[dO];exact .inr (List.any_eq_true.2 ⟨415,List.contains_iff_mem.1 (by kernel_rfl),by kernel_rfl⟩)
 rw[a];rfl
end
end Go.Proofs.YtmlgonbhoknoiabGreatDoor
