import Derived.Test.YthfofjkfbhahoaaGreatDoorRows
import Derived.JoinedOf
namespace Go.Proofs.YthfofjkfbhahoaaGreatDoor
open Go
theorem words_recurses : (Rows.wordsRow.recurses == Tryz.prog.recurses 7) = true := by kernel_rfl
end Go.Proofs.YthfofjkfbhahoaaGreatDoor
