import Derived.Test.YthfofjkfbhahoaaGreatDoorVQ
namespace Go.Proofs.YthfofjkfbhahoaaGreatDoor
section
open Go.RowKit
set_option linter.unusedSimpArgs false
set_option maxRecDepth 100000 in
set_option maxHeartbeats 1000000 in
theorem known_48 (w : World) : Calls Tryz.prog 91 #[.int .i64 48] w fun e w' => e = .returned (.tuple #[.int .i64 4096, .string ⟨#[99, 46, 97, 100, 100, 105, 32, 120, 56, 44, 32, 120, 50, 44, 32, 51, 50]⟩]) ∧ w' = w := by
  go_enter Tryz.func91, Tryz.ntmps91
  go_wp2
  go_ret2
  exact ⟨rfl, rfl⟩
set_option maxRecDepth 100000 in
set_option maxHeartbeats 1000000 in
theorem known_49 (w : World) : Calls Tryz.prog 91 #[.int .i64 49] w fun e w' => e = .returned (.tuple #[.int .i64 29049, .string ⟨#[99, 46, 97, 100, 100, 105, 32, 120, 50, 44, 32, 120, 50, 44, 32, 45, 52, 56]⟩]) ∧ w' = w := by
  go_enter Tryz.func91, Tryz.ntmps91
  go_wp2
  go_ret2
  exact ⟨rfl, rfl⟩
set_option maxRecDepth 100000 in
set_option maxHeartbeats 1000000 in
theorem known_50 (w : World) : Calls Tryz.prog 91 #[.int .i64 50] w fun e w' => e = .returned (.tuple #[.int .i64 24901, .string ⟨#[99, 46, 97, 100, 100, 105, 32, 120, 50, 44, 32, 120, 50, 44, 32, 52, 56]⟩]) ∧ w' = w := by
  go_enter Tryz.func91, Tryz.ntmps91
  go_wp2
  go_ret2
  exact ⟨rfl, rfl⟩
set_option maxRecDepth 100000 in
set_option maxHeartbeats 1000000 in
theorem known_51 (w : World) : Calls Tryz.prog 91 #[.int .i64 51] w fun e w' => e = .returned (.tuple #[.int .i64 29021, .string ⟨#[99, 46, 97, 100, 100, 105, 32, 120, 50, 44, 32, 120, 50, 44, 32, 45, 56, 48]⟩]) ∧ w' = w := by
  go_enter Tryz.func91, Tryz.ntmps91
  go_wp2
  go_ret2
  exact ⟨rfl, rfl⟩
set_option maxRecDepth 100000 in
set_option maxHeartbeats 1000000 in
theorem known_52 (w : World) : Calls Tryz.prog 91 #[.int .i64 52] w fun e w' => e = .returned (.tuple #[.int .i64 24929, .string ⟨#[99, 46, 97, 100, 100, 105, 32, 120, 50, 44, 32, 120, 50, 44, 32, 56, 48]⟩]) ∧ w' = w := by
  go_enter Tryz.func91, Tryz.ntmps91
  go_wp2
  go_ret2
  exact ⟨rfl, rfl⟩
set_option maxRecDepth 100000 in
set_option maxHeartbeats 1000000 in
theorem known_53 (w : World) : Calls Tryz.prog 91 #[.int .i64 53] w fun e w' => e = .returned (.tuple #[.int .i64 24865, .string ⟨#[99, 46, 97, 100, 100, 105, 32, 120, 50, 44, 32, 120, 50, 44, 32, 54, 52]⟩]) ∧ w' = w := by
  go_enter Tryz.func91, Tryz.ntmps91
  go_wp2
  go_ret2
  exact ⟨rfl, rfl⟩
set_option maxRecDepth 100000 in
set_option maxHeartbeats 1000000 in
theorem known_54 (w : World) : Calls Tryz.prog 91 #[.int .i64 54] w fun e w' => e = .returned (.tuple #[.int .i64 24841, .string ⟨#[99, 46, 97, 100, 100, 105, 32, 120, 50, 44, 32, 120, 50, 44, 32, 49, 50, 56]⟩]) ∧ w' = w := by
  go_enter Tryz.func91, Tryz.ntmps91
  go_wp2
  go_ret2
  exact ⟨rfl, rfl⟩
set_option maxRecDepth 100000 in
set_option maxHeartbeats 1000000 in
theorem known_55 (w : World) : Calls Tryz.prog 91 #[.int .i64 55] w fun e w' => e = .returned (.tuple #[.int .i64 28953, .string ⟨#[99, 46, 97, 100, 100, 105, 32, 120, 50, 44, 32, 120, 50, 44, 32, 45, 49, 50, 56]⟩]) ∧ w' = w := by
  go_enter Tryz.func91, Tryz.ntmps91
  go_wp2
  go_ret2
  exact ⟨rfl, rfl⟩
set_option maxRecDepth 100000 in
set_option maxHeartbeats 1000000 in
theorem known_56 (w : World) : Calls Tryz.prog 91 #[.int .i64 56] w fun e w' => e = .returned (.tuple #[.int .i64 52742, .string ⟨#[99, 46, 115, 119, 32, 120, 49, 44, 32, 50, 56, 40, 120, 50, 41]⟩]) ∧ w' = w := by
  go_enter Tryz.func91, Tryz.ntmps91
  go_wp2
  go_ret2
  exact ⟨rfl, rfl⟩
set_option maxRecDepth 100000 in
set_option maxHeartbeats 1000000 in
theorem known_57 (w : World) : Calls Tryz.prog 91 #[.int .i64 57] w fun e w' => e = .returned (.tuple #[.int .i64 50694, .string ⟨#[99, 46, 115, 119, 32, 120, 49, 44, 32, 49, 50, 40, 120, 50, 41]⟩]) ∧ w' = w := by
  go_enter Tryz.func91, Tryz.ntmps91
  go_wp2
  go_ret2
  exact ⟨rfl, rfl⟩
set_option maxRecDepth 100000 in
set_option maxHeartbeats 1000000 in
theorem known_58 (w : World) : Calls Tryz.prog 91 #[.int .i64 58] w fun e w' => e = .returned (.tuple #[.int .i64 50210, .string ⟨#[99, 46, 115, 119, 32, 120, 56, 44, 32, 56, 40, 120, 50, 41]⟩]) ∧ w' = w := by
  go_enter Tryz.func91, Tryz.ntmps91
  go_wp2
  go_ret2
  exact ⟨rfl, rfl⟩
set_option maxRecDepth 100000 in
set_option maxHeartbeats 1000000 in
theorem known_59 (w : World) : Calls Tryz.prog 91 #[.int .i64 59] w fun e w' => e = .returned (.tuple #[.int .i64 49702, .string ⟨#[99, 46, 115, 119, 32, 120, 57, 44, 32, 52, 40, 120, 50, 41]⟩]) ∧ w' = w := by
  go_enter Tryz.func91, Tryz.ntmps91
  go_wp2
  go_ret2
  exact ⟨rfl, rfl⟩
set_option maxRecDepth 100000 in
set_option maxHeartbeats 1000000 in
theorem known_60 (w : World) : Calls Tryz.prog 91 #[.int .i64 60] w fun e w' => e = .returned (.tuple #[.int .i64 54790, .string ⟨#[99, 46, 115, 119, 32, 120, 49, 44, 32, 52, 52, 40, 120, 50, 41]⟩]) ∧ w' = w := by
  go_enter Tryz.func91, Tryz.ntmps91
  go_wp2
  go_ret2
  exact ⟨rfl, rfl⟩
set_option maxRecDepth 100000 in
set_option maxHeartbeats 1000000 in
theorem known_61 (w : World) : Calls Tryz.prog 91 #[.int .i64 61] w fun e w' => e = .returned (.tuple #[.int .i64 16626, .string ⟨#[99, 46, 108, 119, 32, 120, 49, 44, 32, 50, 56, 40, 120, 50, 41]⟩]) ∧ w' = w := by
  go_enter Tryz.func91, Tryz.ntmps91
  go_wp2
  go_ret2
  exact ⟨rfl, rfl⟩
set_option maxRecDepth 100000 in
set_option maxHeartbeats 1000000 in
theorem known_62 (w : World) : Calls Tryz.prog 91 #[.int .i64 62] w fun e w' => e = .returned (.tuple #[.int .i64 16562, .string ⟨#[99, 46, 108, 119, 32, 120, 49, 44, 32, 49, 50, 40, 120, 50, 41]⟩]) ∧ w' = w := by
  go_enter Tryz.func91, Tryz.ntmps91
  go_wp2
  go_ret2
  exact ⟨rfl, rfl⟩
set_option maxRecDepth 100000 in
set_option maxHeartbeats 1000000 in
theorem known_63 (w : World) : Calls Tryz.prog 91 #[.int .i64 63] w fun e w' => e = .returned (.tuple #[.int .i64 17442, .string ⟨#[99, 46, 108, 119, 32, 120, 56, 44, 32, 56, 40, 120, 50, 41]⟩]) ∧ w' = w := by
  go_enter Tryz.func91, Tryz.ntmps91
  go_wp2
  go_ret2
  exact ⟨rfl, rfl⟩
end
section
open Go.RowKit
set_option linter.unusedSimpArgs false
set_option maxRecDepth 100000 in
set_option maxHeartbeats 1000000 in
theorem known_64 (w : World) : Calls Tryz.prog 91 #[.int .i64 64] w fun e w' => e = .returned (.tuple #[.int .i64 17554, .string ⟨#[99, 46, 108, 119, 32, 120, 57, 44, 32, 52, 40, 120, 50, 41]⟩]) ∧ w' = w := by
  go_enter Tryz.func91, Tryz.ntmps91
  go_wp2
  go_ret2
  exact ⟨rfl, rfl⟩
set_option maxRecDepth 100000 in
set_option maxHeartbeats 1000000 in
theorem known_65 (w : World) : Calls Tryz.prog 91 #[.int .i64 65] w fun e w' => e = .returned (.tuple #[.int .i64 20658, .string ⟨#[99, 46, 108, 119, 32, 120, 49, 44, 32, 52, 52, 40, 120, 50, 41]⟩]) ∧ w' = w := by
  go_enter Tryz.func91, Tryz.ntmps91
  go_wp2
  go_ret2
  exact ⟨rfl, rfl⟩
set_option maxRecDepth 100000 in
set_option maxHeartbeats 1000000 in
theorem known_66 (w : World) : Calls Tryz.prog 91 #[.int .i64 66] w fun e w' => e = .returned (.tuple #[.int .i64 50072, .string ⟨#[99, 46, 115, 119, 32, 120, 49, 52, 44, 32, 48, 40, 120, 49, 53, 41]⟩]) ∧ w' = w := by
  go_enter Tryz.func91, Tryz.ntmps91
  go_wp2
  go_ret2
  exact ⟨rfl, rfl⟩
set_option maxRecDepth 100000 in
set_option maxHeartbeats 1000000 in
theorem known_67 (w : World) : Calls Tryz.prog 91 #[.int .i64 67] w fun e w' => e = .returned (.tuple #[.int .i64 17304, .string ⟨#[99, 46, 108, 119, 32, 120, 49, 52, 44, 32, 48, 40, 120, 49, 53, 41]⟩]) ∧ w' = w := by
  go_enter Tryz.func91, Tryz.ntmps91
  go_wp2
  go_ret2
  exact ⟨rfl, rfl⟩
set_option maxRecDepth 100000 in
set_option maxHeartbeats 1000000 in
theorem known_68 (w : World) : Calls Tryz.prog 91 #[.int .i64 68] w fun e w' => e = .returned (.tuple #[.int .i64 50136, .string ⟨#[99, 46, 115, 119, 32, 120, 49, 52, 44, 32, 52, 40, 120, 49, 53, 41]⟩]) ∧ w' = w := by
  go_enter Tryz.func91, Tryz.ntmps91
  go_wp2
  go_ret2
  exact ⟨rfl, rfl⟩
set_option maxRecDepth 100000 in
set_option maxHeartbeats 1000000 in
theorem known_69 (w : World) : Calls Tryz.prog 91 #[.int .i64 69] w fun e w' => e = .returned (.tuple #[.int .i64 17368, .string ⟨#[99, 46, 108, 119, 32, 120, 49, 52, 44, 32, 52, 40, 120, 49, 53, 41]⟩]) ∧ w' = w := by
  go_enter Tryz.func91, Tryz.ntmps91
  go_wp2
  go_ret2
  exact ⟨rfl, rfl⟩
set_option maxRecDepth 100000 in
set_option maxHeartbeats 1000000 in
theorem known_70 (w : World) : Calls Tryz.prog 91 #[.int .i64 70] w fun e w' => e = .returned (.tuple #[.int .i64 17665, .string ⟨#[99, 46, 97, 100, 100, 105, 32, 120, 49, 48, 44, 32, 120, 48, 44, 32, 48]⟩]) ∧ w' = w := by
  go_enter Tryz.func91, Tryz.ntmps91
  go_wp2
  go_ret2
  exact ⟨rfl, rfl⟩
set_option maxRecDepth 100000 in
set_option maxHeartbeats 1000000 in
theorem known_71 (w : World) : Calls Tryz.prog 91 #[.int .i64 71] w fun e w' => e = .returned (.tuple #[.int .i64 17669, .string ⟨#[99, 46, 97, 100, 100, 105, 32, 120, 49, 48, 44, 32, 120, 48, 44, 32, 49]⟩]) ∧ w' = w := by
  go_enter Tryz.func91, Tryz.ntmps91
  go_wp2
  go_ret2
  exact ⟨rfl, rfl⟩
set_option maxRecDepth 100000 in
set_option maxHeartbeats 1000000 in
theorem known_72 (w : World) : Calls Tryz.prog 91 #[.int .i64 72] w fun e w' => e = .returned (.tuple #[.int .i64 34110, .string ⟨#[99, 46, 97, 100, 100, 32, 120, 49, 48, 44, 32, 120, 48, 44, 32, 120, 49, 53]⟩]) ∧ w' = w := by
  go_enter Tryz.func91, Tryz.ntmps91
  go_wp2
  go_ret2
  exact ⟨rfl, rfl⟩
set_option maxRecDepth 100000 in
set_option maxHeartbeats 1000000 in
theorem known_73 (w : World) : Calls Tryz.prog 91 #[.int .i64 73] w fun e w' => e = .returned (.tuple #[.int .i64 38842, .string ⟨#[99, 46, 97, 100, 100, 32, 120, 49, 53, 44, 32, 120, 49, 53, 44, 32, 120, 49, 52]⟩]) ∧ w' = w := by
  go_enter Tryz.func91, Tryz.ntmps91
  go_wp2
  go_ret2
  exact ⟨rfl, rfl⟩
set_option maxRecDepth 100000 in
set_option maxHeartbeats 1000000 in
theorem known_74 (w : World) : Calls Tryz.prog 91 #[.int .i64 74] w fun e w' => e = .returned (.tuple #[.int .i64 38786, .string ⟨#[99, 46, 106, 97, 108, 114, 32, 120, 49, 44, 32, 48, 40, 120, 49, 53, 41]⟩]) ∧ w' = w := by
  go_enter Tryz.func91, Tryz.ntmps91
  go_wp2
  go_ret2
  exact ⟨rfl, rfl⟩
set_option maxRecDepth 100000 in
set_option maxHeartbeats 1000000 in
theorem known_75 (w : World) : Calls Tryz.prog 91 #[.int .i64 75] w fun e w' => e = .returned (.tuple #[.int .i64 34690, .string ⟨#[99, 46, 106, 97, 108, 114, 32, 120, 48, 44, 32, 48, 40, 120, 49, 53, 41]⟩]) ∧ w' = w := by
  go_enter Tryz.func91, Tryz.ntmps91
  go_wp2
  go_ret2
  exact ⟨rfl, rfl⟩
set_option maxRecDepth 100000 in
set_option maxHeartbeats 1000000 in
theorem known_76 (w : World) : Calls Tryz.prog 91 #[.int .i64 76] w fun e w' => e = .returned (.tuple #[.int .i64 1925, .string ⟨#[99, 46, 97, 100, 100, 105, 32, 120, 49, 53, 44, 32, 120, 49, 53, 44, 32, 49]⟩]) ∧ w' = w := by
  go_enter Tryz.func91, Tryz.ntmps91
  go_wp2
  go_ret2
  exact ⟨rfl, rfl⟩
set_option maxRecDepth 100000 in
set_option maxHeartbeats 1000000 in
theorem known_77 (w : World) : Calls Tryz.prog 91 #[.int .i64 77] w fun e w' => e = .returned (.tuple #[.int .i64 6141, .string ⟨#[99, 46, 97, 100, 100, 105, 32, 120, 49, 53, 44, 32, 120, 49, 53, 44, 32, 45, 49]⟩]) ∧ w' = w := by
  go_enter Tryz.func91, Tryz.ntmps91
  go_wp2
  go_ret2
  exact ⟨rfl, rfl⟩
set_option maxRecDepth 100000 in
set_option maxHeartbeats 1000000 in
theorem known_78 (w : World) : Calls Tryz.prog 91 #[.int .i64 78] w fun e w' => e = .returned (.tuple #[.int .i64 35717, .string ⟨#[99, 46, 97, 110, 100, 105, 32, 120, 49, 53, 44, 32, 120, 49, 53, 44, 32, 49]⟩]) ∧ w' = w := by
  go_enter Tryz.func91, Tryz.ntmps91
  go_wp2
  go_ret2
  exact ⟨rfl, rfl⟩
set_option maxRecDepth 100000 in
set_option maxHeartbeats 1000000 in
theorem known_79 (w : World) : Calls Tryz.prog 91 #[.int .i64 79] w fun e w' => e = .returned (.tuple #[.int .i64 33677, .string ⟨#[99, 46, 115, 114, 108, 105, 32, 120, 49, 53, 44, 32, 120, 49, 53, 44, 32, 51]⟩]) ∧ w' = w := by
  go_enter Tryz.func91, Tryz.ntmps91
  go_wp2
  go_ret2
  exact ⟨rfl, rfl⟩
end
end Go.Proofs.YthfofjkfbhahoaaGreatDoor
