import Derived.Test.YthfofjkfbhahoaaGreatDoorRows
import Derived.JoinedOf
namespace Go.Proofs.YthfofjkfbhahoaaGreatDoor
open Go
theorem texts_recurses : (Rows.textsRow.recurses == Tryz.prog.recurses 6) = true := by kernel_rfl
end Go.Proofs.YthfofjkfbhahoaaGreatDoor
