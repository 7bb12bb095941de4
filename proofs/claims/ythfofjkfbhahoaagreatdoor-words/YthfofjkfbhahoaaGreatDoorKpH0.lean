import Derived.Test.YthfofjkfbhahoaaGreatDoorRows
import Derived.JoinedOf
namespace Go.Proofs.YthfofjkfbhahoaaGreatDoor
open Go
theorem words_inPlace : (Rows.wordsRow.inPlace == Tryz.prog.inPlace 7) = true := by kernel_rfl
end Go.Proofs.YthfofjkfbhahoaaGreatDoor
