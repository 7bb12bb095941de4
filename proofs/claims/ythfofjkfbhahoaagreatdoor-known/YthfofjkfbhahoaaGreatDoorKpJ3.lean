import Derived.Test.YthfofjkfbhahoaaGreatDoorRows
import Derived.JoinedOf
namespace Go.Proofs.YthfofjkfbhahoaaGreatDoor
open Go
theorem known_named : (Rows.knownRow.named == Tryz.prog.varsNamed 8) = true := by kernel_rfl
end Go.Proofs.YthfofjkfbhahoaaGreatDoor
