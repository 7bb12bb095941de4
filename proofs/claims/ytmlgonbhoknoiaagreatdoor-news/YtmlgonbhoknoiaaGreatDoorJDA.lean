import Derived.Test.YtmlgonbhoknoiaaGreatDoorRows
import Derived.Test.YtmlgonbhoknoiaaGreatDoorJQ
set_option maxHeartbeats 8000000
set_option maxRecDepth 100000
set_option linter.all false
namespace Go.Proofs.YtmlgonbhoknoiaaGreatDoor
open Go.RowKit Go.Proofs.Tryz
section
open Go
def Tu :false=Rows.newsRow.goesBy Tryz.pinned.checked.prog:=by kernel_rfl
def TB :Rows.newsRow.wfByText (OpenSpec.ofChange Rows.newsSpec)=true:=by kernel_rfl
end
end Go.Proofs.YtmlgonbhoknoiaaGreatDoor
