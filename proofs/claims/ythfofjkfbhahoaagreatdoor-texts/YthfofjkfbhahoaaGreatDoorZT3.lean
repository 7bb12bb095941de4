import Derived.Test.YthfofjkfbhahoaaGreatDoorRows
import Derived.JoinedOf
namespace Go.Proofs.YthfofjkfbhahoaaGreatDoor
open Go
theorem texts_named : (Rows.textsRow.named == Tryz.prog.varsNamed 6) = true := by kernel_rfl
end Go.Proofs.YthfofjkfbhahoaaGreatDoor
