import Derived.Test.YtmlgonbhoknoiabGreatDoorRows
import Derived.Test.YtmlgonbhoknoiabGreatDoorYQ
set_option maxHeartbeats 8000000
set_option linter.all false
namespace Go.Proofs.YtmlgonbhoknoiabGreatDoor
open Go.RowKit Go.Proofs.Tryz
section
open Go
set_option maxRecDepth 100000 in
theorem card_main : Tryz.pinned.checked.prog.mainIs = some (true, "7959aec3c999f8f1cf8ade6463e783772d648c9ef47d923875839f4dba7eb0ba".toList) := by kernel_rfl
set_option maxRecDepth 100000 in
theorem watched_wf : Rows.watchedRow.wfByText (OpenSpec.ofChange Rows.watchedSpec) = true := by kernel_rfl
end
end Go.Proofs.YtmlgonbhoknoiabGreatDoor
