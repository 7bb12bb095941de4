import Derived.Test.YthfofjkfbhahoaaGreatDoorRows
import Derived.JoinedOf
namespace Go.Proofs.YthfofjkfbhahoaaGreatDoor
open Go
theorem known_recurses : (Rows.knownRow.recurses == Tryz.prog.recurses 8) = true := by kernel_rfl
end Go.Proofs.YthfofjkfbhahoaaGreatDoor
