import Derived.Test.YthfofjkfbhahoaaGreatDoorRows
import Derived.JoinedOf
namespace Go.Proofs.YthfofjkfbhahoaaGreatDoor
open Go
theorem encodes_named : (Rows.encodesRow.named == Tryz.prog.varsNamed 4) = true := by kernel_rfl
end Go.Proofs.YthfofjkfbhahoaaGreatDoor
