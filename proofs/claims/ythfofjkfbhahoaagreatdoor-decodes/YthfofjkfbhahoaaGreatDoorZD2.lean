import Derived.Test.YthfofjkfbhahoaaGreatDoorRows
import Derived.JoinedOf
namespace Go.Proofs.YthfofjkfbhahoaaGreatDoor
open Go
theorem decodes_recurses : (Rows.decodesRow.recurses == Tryz.prog.recurses 3) = true := by kernel_rfl
end Go.Proofs.YthfofjkfbhahoaaGreatDoor
