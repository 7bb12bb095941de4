import Derived.Test.YtmlgonbhoknoiabGreatDoorRows
import Derived.Test.YtmlgonbhoknoiabGreatDoorJQ
set_option maxHeartbeats 8000000
set_option maxRecDepth 100000
set_option linter.all false
namespace Go.Proofs.YtmlgonbhoknoiabGreatDoor
open Go.RowKit Go.Proofs.Tryz
section
open Go
def O8 :(Rows.allRow.named==prog.varsNamed 12)=true:=by kernel_rfl
end
end Go.Proofs.YtmlgonbhoknoiabGreatDoor
