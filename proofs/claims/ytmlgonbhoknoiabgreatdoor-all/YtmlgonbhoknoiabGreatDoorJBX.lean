import Derived.Test.YtmlgonbhoknoiabGreatDoorRows
import Derived.Test.YtmlgonbhoknoiabGreatDoorJQ
set_option maxHeartbeats 8000000
set_option maxRecDepth 100000
set_option linter.all false
namespace Go.Proofs.YtmlgonbhoknoiabGreatDoor
open Go.RowKit Go.Proofs.Tryz
section
open Go
def Qa :Tryz.pinned.checked.prog.mainIs=some (true, "7959aec3c999f8f1cf8ade6463e783772d648c9ef47d923875839f4dba7eb0ba".toList):=by kernel_rfl
def Pc :Rows.allRow.wfByText (OpenSpec.ofChange Rows.allSpec)=true:=by kernel_rfl
end
end Go.Proofs.YtmlgonbhoknoiabGreatDoor
