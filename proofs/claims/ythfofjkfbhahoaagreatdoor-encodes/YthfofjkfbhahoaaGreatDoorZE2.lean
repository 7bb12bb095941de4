import Derived.Test.YthfofjkfbhahoaaGreatDoorRows
import Derived.JoinedOf
namespace Go.Proofs.YthfofjkfbhahoaaGreatDoor
open Go
theorem encodes_recurses : (Rows.encodesRow.recurses == Tryz.prog.recurses 4) = true := by kernel_rfl
end Go.Proofs.YthfofjkfbhahoaaGreatDoor
