import Derived.Test.YtmlgonbhoknoiaaGreatDoorRows
import Derived.Test.YtmlgonbhoknoiaaGreatDoorJQ
set_option maxHeartbeats 8000000
set_option maxRecDepth 100000
set_option linter.all false
namespace Go.Proofs.YtmlgonbhoknoiaaGreatDoor
open Go.RowKit Go.Proofs.Tryz
section
open Go
def Ry :(Rows.imagesRow.named==prog.varsNamed 5)=true:=by kernel_rfl
end
end Go.Proofs.YtmlgonbhoknoiaaGreatDoor
