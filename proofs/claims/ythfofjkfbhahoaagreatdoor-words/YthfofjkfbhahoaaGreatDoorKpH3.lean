import Derived.Test.YthfofjkfbhahoaaGreatDoorRows
import Derived.JoinedOf
namespace Go.Proofs.YthfofjkfbhahoaaGreatDoor
open Go
theorem words_named : (Rows.wordsRow.named == Tryz.prog.varsNamed 7) = true := by kernel_rfl
end Go.Proofs.YthfofjkfbhahoaaGreatDoor
