import Derived.Test.YtmlgonbhoknoiaaGreatDoorRows
import Derived.Test.YtmlgonbhoknoiaaGreatDoorJQ
set_option maxHeartbeats 8000000
set_option maxRecDepth 100000
set_option linter.all false
namespace Go.Proofs.YtmlgonbhoknoiaaGreatDoor
open Go.RowKit Go.Proofs.Tryz
section
open Go
def kF :Tryz.pinned.checked.prog.mainIs=some (true, "ec44218dc01cf5e969531c2aae00b79bc5c657b0f79820b2c48c4db509d0d3ad".toList):=by kernel_rfl
end
end Go.Proofs.YtmlgonbhoknoiaaGreatDoor
