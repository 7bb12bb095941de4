import Derived.Test.YthfofjkfbhahoaaGreatDoorVP
namespace Go.Proofs.YthfofjkfbhahoaaGreatDoor
section
open Go.RowKit
set_option linter.unusedSimpArgs false
set_option maxRecDepth 100000 in
set_option maxHeartbeats 1000000 in
theorem known_0 (w : World) : Calls Tryz.prog 91 #[.int .i64 0] w fun e w' => e = .returned (.tuple #[.int .i64 19, .string ⟨#[97, 100, 100, 105, 32, 120, 48, 44, 32, 120, 48, 44, 32, 48]⟩]) ∧ w' = w := by
  go_enter Tryz.func91, Tryz.ntmps91
  go_wp2
  go_ret2
  exact ⟨rfl, rfl⟩
set_option maxRecDepth 100000 in
set_option maxHeartbeats 1000000 in
theorem known_1 (w : World) : Calls Tryz.prog 91 #[.int .i64 1] w fun e w' => e = .returned (.tuple #[.int .i64 32871, .string ⟨#[106, 97, 108, 114, 32, 120, 48, 44, 32, 48, 40, 120, 49, 41]⟩]) ∧ w' = w := by
  go_enter Tryz.func91, Tryz.ntmps91
  go_wp2
  go_ret2
  exact ⟨rfl, rfl⟩
set_option maxRecDepth 100000 in
set_option maxHeartbeats 1000000 in
theorem known_2 (w : World) : Calls Tryz.prog 91 #[.int .i64 2] w fun e w' => e = .returned (.tuple #[.int .i64 115, .string ⟨#[101, 99, 97, 108, 108]⟩]) ∧ w' = w := by
  go_enter Tryz.func91, Tryz.ntmps91
  go_wp2
  go_ret2
  exact ⟨rfl, rfl⟩
set_option maxRecDepth 100000 in
set_option maxHeartbeats 1000000 in
theorem known_3 (w : World) : Calls Tryz.prog 91 #[.int .i64 3] w fun e w' => e = .returned (.tuple #[.int .i64 1048691, .string ⟨#[101, 98, 114, 101, 97, 107]⟩]) ∧ w' = w := by
  go_enter Tryz.func91, Tryz.ntmps91
  go_wp2
  go_ret2
  exact ⟨rfl, rfl⟩
set_option maxRecDepth 100000 in
set_option maxHeartbeats 1000000 in
theorem known_4 (w : World) : Calls Tryz.prog 91 #[.int .i64 4] w fun e w' => e = .returned (.tuple #[.int .i64 807403635, .string ⟨#[109, 114, 101, 116]⟩]) ∧ w' = w := by
  go_enter Tryz.func91, Tryz.ntmps91
  go_wp2
  go_ret2
  exact ⟨rfl, rfl⟩
set_option maxRecDepth 100000 in
set_option maxHeartbeats 1000000 in
theorem known_5 (w : World) : Calls Tryz.prog 91 #[.int .i64 5] w fun e w' => e = .returned (.tuple #[.int .i64 270532723, .string ⟨#[115, 114, 101, 116]⟩]) ∧ w' = w := by
  go_enter Tryz.func91, Tryz.ntmps91
  go_wp2
  go_ret2
  exact ⟨rfl, rfl⟩
set_option maxRecDepth 100000 in
set_option maxHeartbeats 1000000 in
theorem known_6 (w : World) : Calls Tryz.prog 91 #[.int .i64 6] w fun e w' => e = .returned (.tuple #[.int .i64 273678451, .string ⟨#[119, 102, 105]⟩]) ∧ w' = w := by
  go_enter Tryz.func91, Tryz.ntmps91
  go_wp2
  go_ret2
  exact ⟨rfl, rfl⟩
set_option maxRecDepth 100000 in
set_option maxHeartbeats 1000000 in
theorem known_7 (w : World) : Calls Tryz.prog 91 #[.int .i64 7] w fun e w' => e = .returned (.tuple #[.int .i64 301990003, .string ⟨#[115, 102, 101, 110, 99, 101, 46, 118, 109, 97, 32, 120, 48, 44, 32, 120, 48]⟩]) ∧ w' = w := by
  go_enter Tryz.func91, Tryz.ntmps91
  go_wp2
  go_ret2
  exact ⟨rfl, rfl⟩
set_option maxRecDepth 100000 in
set_option maxHeartbeats 1000000 in
theorem known_8 (w : World) : Calls Tryz.prog 91 #[.int .i64 8] w fun e w' => e = .returned (.tuple #[.int .i64 4111, .string ⟨#[102, 101, 110, 99, 101, 46, 105, 32, 120, 48, 44, 32, 120, 48, 44, 32, 48]⟩]) ∧ w' = w := by
  go_enter Tryz.func91, Tryz.ntmps91
  go_wp2
  go_ret2
  exact ⟨rfl, rfl⟩
set_option maxRecDepth 100000 in
set_option maxHeartbeats 1000000 in
theorem known_9 (w : World) : Calls Tryz.prog 91 #[.int .i64 9] w fun e w' => e = .returned (.tuple #[.int .i64 267386895, .string ⟨#[102, 101, 110, 99, 101, 32, 120, 48, 44, 32, 120, 48, 44, 32, 50, 53, 53]⟩]) ∧ w' = w := by
  go_enter Tryz.func91, Tryz.ntmps91
  go_wp2
  go_ret2
  exact ⟨rfl, rfl⟩
set_option maxRecDepth 100000 in
set_option maxHeartbeats 1000000 in
theorem known_10 (w : World) : Calls Tryz.prog 91 #[.int .i64 10] w fun e w' => e = .returned (.tuple #[.int .i64 4261478675, .string ⟨#[97, 100, 100, 105, 32, 120, 50, 44, 32, 120, 50, 44, 32, 45, 51, 50]⟩]) ∧ w' = w := by
  go_enter Tryz.func91, Tryz.ntmps91
  go_wp2
  go_ret2
  exact ⟨rfl, rfl⟩
set_option maxRecDepth 100000 in
set_option maxHeartbeats 1000000 in
theorem known_11 (w : World) : Calls Tryz.prog 91 #[.int .i64 11] w fun e w' => e = .returned (.tuple #[.int .i64 1125923, .string ⟨#[115, 119, 32, 120, 49, 44, 32, 50, 56, 40, 120, 50, 41]⟩]) ∧ w' = w := by
  go_enter Tryz.func91, Tryz.ntmps91
  go_wp2
  go_ret2
  exact ⟨rfl, rfl⟩
set_option maxRecDepth 100000 in
set_option maxHeartbeats 1000000 in
theorem known_12 (w : World) : Calls Tryz.prog 91 #[.int .i64 12] w fun e w' => e = .returned (.tuple #[.int .i64 29433987, .string ⟨#[108, 119, 32, 120, 49, 44, 32, 50, 56, 40, 120, 50, 41]⟩]) ∧ w' = w := by
  go_enter Tryz.func91, Tryz.ntmps91
  go_wp2
  go_ret2
  exact ⟨rfl, rfl⟩
set_option maxRecDepth 100000 in
set_option maxHeartbeats 1000000 in
theorem known_13 (w : World) : Calls Tryz.prog 91 #[.int .i64 13] w fun e w' => e = .returned (.tuple #[.int .i64 4272172579, .string ⟨#[115, 119, 32, 120, 49, 48, 44, 32, 45, 52, 40, 120, 56, 41]⟩]) ∧ w' = w := by
  go_enter Tryz.func91, Tryz.ntmps91
  go_wp2
  go_ret2
  exact ⟨rfl, rfl⟩
set_option maxRecDepth 100000 in
set_option maxHeartbeats 1000000 in
theorem known_14 (w : World) : Calls Tryz.prog 91 #[.int .i64 14] w fun e w' => e = .returned (.tuple #[.int .i64 4274268035, .string ⟨#[108, 119, 32, 120, 49, 53, 44, 32, 45, 50, 48, 40, 120, 56, 41]⟩]) ∧ w' = w := by
  go_enter Tryz.func91, Tryz.ntmps91
  go_wp2
  go_ret2
  exact ⟨rfl, rfl⟩
set_option maxRecDepth 100000 in
set_option maxHeartbeats 1000000 in
theorem known_15 (w : World) : Calls Tryz.prog 91 #[.int .i64 15] w fun e w' => e = .returned (.tuple #[.int .i64 111, .string ⟨#[106, 97, 108, 32, 120, 48, 44, 32, 48]⟩]) ∧ w' = w := by
  go_enter Tryz.func91, Tryz.ntmps91
  go_wp2
  go_ret2
  exact ⟨rfl, rfl⟩
end
section
open Go.RowKit
set_option linter.unusedSimpArgs false
set_option maxRecDepth 100000 in
set_option maxHeartbeats 1000000 in
theorem known_16 (w : World) : Calls Tryz.prog 91 #[.int .i64 16] w fun e w' => e = .returned (.tuple #[.int .i64 4284477551, .string ⟨#[106, 97, 108, 32, 120, 48, 44, 32, 45, 49, 50]⟩]) ∧ w' = w := by
  go_enter Tryz.func91, Tryz.ntmps91
  go_wp2
  go_ret2
  exact ⟨rfl, rfl⟩
set_option maxRecDepth 100000 in
set_option maxHeartbeats 1000000 in
theorem known_17 (w : World) : Calls Tryz.prog 91 #[.int .i64 17] w fun e w' => e = .returned (.tuple #[.int .i64 4194543, .string ⟨#[106, 97, 108, 32, 120, 49, 44, 32, 52]⟩]) ∧ w' = w := by
  go_enter Tryz.func91, Tryz.ntmps91
  go_wp2
  go_ret2
  exact ⟨rfl, rfl⟩
set_option maxRecDepth 100000 in
set_option maxHeartbeats 1000000 in
theorem known_18 (w : World) : Calls Tryz.prog 91 #[.int .i64 18] w fun e w' => e = .returned (.tuple #[.int .i64 4261912291, .string ⟨#[98, 110, 101, 32, 120, 49, 53, 44, 32, 120, 48, 44, 32, 45, 52]⟩]) ∧ w' = w := by
  go_enter Tryz.func91, Tryz.ntmps91
  go_wp2
  go_ret2
  exact ⟨rfl, rfl⟩
set_option maxRecDepth 100000 in
set_option maxHeartbeats 1000000 in
theorem known_19 (w : World) : Calls Tryz.prog 91 #[.int .i64 19] w fun e w' => e = .returned (.tuple #[.int .i64 492643, .string ⟨#[98, 101, 113, 32, 120, 49, 53, 44, 32, 120, 48, 44, 32, 56]⟩]) ∧ w' = w := by
  go_enter Tryz.func91, Tryz.ntmps91
  go_wp2
  go_ret2
  exact ⟨rfl, rfl⟩
set_option maxRecDepth 100000 in
set_option maxHeartbeats 1000000 in
theorem known_20 (w : World) : Calls Tryz.prog 91 #[.int .i64 20] w fun e w' => e = .returned (.tuple #[.int .i64 16208995, .string ⟨#[98, 103, 101, 32, 120, 49, 52, 44, 32, 120, 49, 53, 44, 32, 56]⟩]) ∧ w' = w := by
  go_enter Tryz.func91, Tryz.ntmps91
  go_wp2
  go_ret2
  exact ⟨rfl, rfl⟩
set_option maxRecDepth 100000 in
set_option maxHeartbeats 1000000 in
theorem known_21 (w : World) : Calls Tryz.prog 91 #[.int .i64 21] w fun e w' => e = .returned (.tuple #[.int .i64 16213091, .string ⟨#[98, 108, 116, 117, 32, 120, 49, 52, 44, 32, 120, 49, 53, 44, 32, 56]⟩]) ∧ w' = w := by
  go_enter Tryz.func91, Tryz.ntmps91
  go_wp2
  go_ret2
  exact ⟨rfl, rfl⟩
set_option maxRecDepth 100000 in
set_option maxHeartbeats 1000000 in
theorem known_22 (w : World) : Calls Tryz.prog 91 #[.int .i64 22] w fun e w' => e = .returned (.tuple #[.int .i64 4273278691, .string ⟨#[98, 101, 113, 32, 120, 49, 48, 44, 32, 120, 49, 49, 44, 32, 45, 52]⟩]) ∧ w' = w := by
  go_enter Tryz.func91, Tryz.ntmps91
  go_wp2
  go_ret2
  exact ⟨rfl, rfl⟩
set_option maxRecDepth 100000 in
set_option maxHeartbeats 1000000 in
theorem known_23 (w : World) : Calls Tryz.prog 91 #[.int .i64 23] w fun e w' => e = .returned (.tuple #[.int .i64 4047512947, .string ⟨#[99, 115, 114, 114, 115, 32, 120, 49, 48, 44, 32, 51, 56, 54, 48, 44, 32, 120, 48]⟩]) ∧ w' = w := by
  go_enter Tryz.func91, Tryz.ntmps91
  go_wp2
  go_ret2
  exact ⟨rfl, rfl⟩
set_option maxRecDepth 100000 in
set_option maxHeartbeats 1000000 in
theorem known_24 (w : World) : Calls Tryz.prog 91 #[.int .i64 24] w fun e w' => e = .returned (.tuple #[.int .i64 402985075, .string ⟨#[99, 115, 114, 114, 119, 32, 120, 48, 44, 32, 51, 56, 52, 44, 32, 120, 49, 48]⟩]) ∧ w' = w := by
  go_enter Tryz.func91, Tryz.ntmps91
  go_wp2
  go_ret2
  exact ⟨rfl, rfl⟩
set_option maxRecDepth 100000 in
set_option maxHeartbeats 1000000 in
theorem known_25 (w : World) : Calls Tryz.prog 91 #[.int .i64 25] w fun e w' => e = .returned (.tuple #[.int .i64 873795699, .string ⟨#[99, 115, 114, 114, 119, 32, 120, 48, 44, 32, 56, 51, 51, 44, 32, 120, 49, 48]⟩]) ∧ w' = w := by
  go_enter Tryz.func91, Tryz.ntmps91
  go_wp2
  go_ret2
  exact ⟨rfl, rfl⟩
set_option maxRecDepth 100000 in
set_option maxHeartbeats 1000000 in
theorem known_26 (w : World) : Calls Tryz.prog 91 #[.int .i64 26] w fun e w' => e = .returned (.tuple #[.int .i64 805597299, .string ⟨#[99, 115, 114, 114, 99, 105, 32, 120, 48, 44, 32, 55, 54, 56, 44, 32, 56]⟩]) ∧ w' = w := by
  go_enter Tryz.func91, Tryz.ntmps91
  go_wp2
  go_ret2
  exact ⟨rfl, rfl⟩
set_option maxRecDepth 100000 in
set_option maxHeartbeats 1000000 in
theorem known_27 (w : World) : Calls Tryz.prog 91 #[.int .i64 27] w fun e w' => e = .returned (.tuple #[.int .i64 805593203, .string ⟨#[99, 115, 114, 114, 115, 105, 32, 120, 48, 44, 32, 55, 54, 56, 44, 32, 56]⟩]) ∧ w' = w := by
  go_enter Tryz.func91, Tryz.ntmps91
  go_wp2
  go_ret2
  exact ⟨rfl, rfl⟩
set_option maxRecDepth 100000 in
set_option maxHeartbeats 1000000 in
theorem known_28 (w : World) : Calls Tryz.prog 91 #[.int .i64 28] w fun e w' => e = .returned (.tuple #[.int .i64 3221235059, .string ⟨#[99, 115, 114, 114, 115, 32, 120, 49, 48, 44, 32, 51, 48, 55, 50, 44, 32, 120, 48]⟩]) ∧ w' = w := by
  go_enter Tryz.func91, Tryz.ntmps91
  go_wp2
  go_ret2
  exact ⟨rfl, rfl⟩
set_option maxRecDepth 100000 in
set_option maxHeartbeats 1000000 in
theorem known_29 (w : World) : Calls Tryz.prog 91 #[.int .i64 29] w fun e w' => e = .returned (.tuple #[.int .i64 12944691, .string ⟨#[97, 100, 100, 32, 120, 49, 48, 44, 32, 120, 49, 49, 44, 32, 120, 49, 50]⟩]) ∧ w' = w := by
  go_enter Tryz.func91, Tryz.ntmps91
  go_wp2
  go_ret2
  exact ⟨rfl, rfl⟩
set_option maxRecDepth 100000 in
set_option maxHeartbeats 1000000 in
theorem known_30 (w : World) : Calls Tryz.prog 91 #[.int .i64 30] w fun e w' => e = .returned (.tuple #[.int .i64 1086686515, .string ⟨#[115, 117, 98, 32, 120, 49, 48, 44, 32, 120, 49, 49, 44, 32, 120, 49, 50]⟩]) ∧ w' = w := by
  go_enter Tryz.func91, Tryz.ntmps91
  go_wp2
  go_ret2
  exact ⟨rfl, rfl⟩
set_option maxRecDepth 100000 in
set_option maxHeartbeats 1000000 in
theorem known_31 (w : World) : Calls Tryz.prog 91 #[.int .i64 31] w fun e w' => e = .returned (.tuple #[.int .i64 46499123, .string ⟨#[109, 117, 108, 32, 120, 49, 48, 44, 32, 120, 49, 49, 44, 32, 120, 49, 50]⟩]) ∧ w' = w := by
  go_enter Tryz.func91, Tryz.ntmps91
  go_wp2
  go_ret2
  exact ⟨rfl, rfl⟩
end
section
open Go.RowKit
set_option linter.unusedSimpArgs false
set_option maxRecDepth 100000 in
set_option maxHeartbeats 1000000 in
theorem known_32 (w : World) : Calls Tryz.prog 91 #[.int .i64 32] w fun e w' => e = .returned (.tuple #[.int .i64 46519603, .string ⟨#[100, 105, 118, 117, 32, 120, 49, 48, 44, 32, 120, 49, 49, 44, 32, 120, 49, 50]⟩]) ∧ w' = w := by
  go_enter Tryz.func91, Tryz.ntmps91
  go_wp2
  go_ret2
  exact ⟨rfl, rfl⟩
set_option maxRecDepth 100000 in
set_option maxHeartbeats 1000000 in
theorem known_33 (w : World) : Calls Tryz.prog 91 #[.int .i64 33] w fun e w' => e = .returned (.tuple #[.int .i64 49772467, .string ⟨#[114, 101, 109, 117, 32, 120, 49, 53, 44, 32, 120, 49, 52, 44, 32, 120, 49, 53]⟩]) ∧ w' = w := by
  go_enter Tryz.func91, Tryz.ntmps91
  go_wp2
  go_ret2
  exact ⟨rfl, rfl⟩
set_option maxRecDepth 100000 in
set_option maxHeartbeats 1000000 in
theorem known_34 (w : World) : Calls Tryz.prog 91 #[.int .i64 34] w fun e w' => e = .returned (.tuple #[.int .i64 1106597139, .string ⟨#[115, 114, 97, 105, 32, 120, 49, 48, 44, 32, 120, 49, 48, 44, 32, 51, 49]⟩]) ∧ w' = w := by
  go_enter Tryz.func91, Tryz.ntmps91
  go_wp2
  go_ret2
  exact ⟨rfl, rfl⟩
set_option maxRecDepth 100000 in
set_option maxHeartbeats 1000000 in
theorem known_35 (w : World) : Calls Tryz.prog 91 #[.int .i64 35] w fun e w' => e = .returned (.tuple #[.int .i64 509187, .string ⟨#[108, 98, 117, 32, 120, 49, 48, 44, 32, 48, 40, 120, 49, 53, 41]⟩]) ∧ w' = w := by
  go_enter Tryz.func91, Tryz.ntmps91
  go_wp2
  go_ret2
  exact ⟨rfl, rfl⟩
set_option maxRecDepth 100000 in
set_option maxHeartbeats 1000000 in
theorem known_36 (w : World) : Calls Tryz.prog 91 #[.int .i64 36] w fun e w' => e = .returned (.tuple #[.int .i64 268436791, .string ⟨#[108, 117, 105, 32, 120, 49, 48, 44, 32, 54, 53, 53, 51, 54]⟩]) ∧ w' = w := by
  go_enter Tryz.func91, Tryz.ntmps91
  go_wp2
  go_ret2
  exact ⟨rfl, rfl⟩
set_option maxRecDepth 100000 in
set_option maxHeartbeats 1000000 in
theorem known_37 (w : World) : Calls Tryz.prog 91 #[.int .i64 37] w fun e w' => e = .returned (.tuple #[.int .i64 279, .string ⟨#[97, 117, 105, 112, 99, 32, 120, 50, 44, 32, 48]⟩]) ∧ w' = w := by
  go_enter Tryz.func91, Tryz.ntmps91
  go_wp2
  go_ret2
  exact ⟨rfl, rfl⟩
set_option maxRecDepth 100000 in
set_option maxHeartbeats 1000000 in
theorem known_38 (w : World) : Calls Tryz.prog 91 #[.int .i64 38] w fun e w' => e = .returned (.tuple #[.int .i64 212182319, .string ⟨#[97, 109, 111, 115, 119, 97, 112, 46, 119, 32, 120, 49, 48, 44, 32, 120, 49, 48, 44, 32, 120, 49, 49, 44, 32, 50]⟩]) ∧ w' = w := by
  go_enter Tryz.func91, Tryz.ntmps91
  go_wp2
  go_ret2
  exact ⟨rfl, rfl⟩
set_option maxRecDepth 100000 in
set_option maxHeartbeats 1000000 in
theorem known_39 (w : World) : Calls Tryz.prog 91 #[.int .i64 39] w fun e w' => e = .returned (.tuple #[.int .i64 268805423, .string ⟨#[108, 114, 46, 119, 32, 120, 49, 48, 44, 32, 120, 49, 49, 44, 32, 48]⟩]) ∧ w' = w := by
  go_enter Tryz.func91, Tryz.ntmps91
  go_wp2
  go_ret2
  exact ⟨rfl, rfl⟩
set_option maxRecDepth 100000 in
set_option maxHeartbeats 1000000 in
theorem known_40 (w : World) : Calls Tryz.prog 91 #[.int .i64 40] w fun e w' => e = .returned (.tuple #[.int .i64 415606063, .string ⟨#[115, 99, 46, 119, 32, 120, 49, 48, 44, 32, 120, 49, 50, 44, 32, 120, 49, 49, 44, 32, 48]⟩]) ∧ w' = w := by
  go_enter Tryz.func91, Tryz.ntmps91
  go_wp2
  go_ret2
  exact ⟨rfl, rfl⟩
set_option maxRecDepth 100000 in
set_option maxHeartbeats 1000000 in
theorem known_41 (w : World) : Calls Tryz.prog 91 #[.int .i64 41] w fun e w' => e = .returned (.tuple #[.int .i64 1, .string ⟨#[99, 46, 97, 100, 100, 105, 32, 120, 48, 44, 32, 120, 48, 44, 32, 48]⟩]) ∧ w' = w := by
  go_enter Tryz.func91, Tryz.ntmps91
  go_wp2
  go_ret2
  exact ⟨rfl, rfl⟩
set_option maxRecDepth 100000 in
set_option maxHeartbeats 1000000 in
theorem known_42 (w : World) : Calls Tryz.prog 91 #[.int .i64 42] w fun e w' => e = .returned (.tuple #[.int .i64 32898, .string ⟨#[99, 46, 106, 97, 108, 114, 32, 120, 48, 44, 32, 48, 40, 120, 49, 41]⟩]) ∧ w' = w := by
  go_enter Tryz.func91, Tryz.ntmps91
  go_wp2
  go_ret2
  exact ⟨rfl, rfl⟩
set_option maxRecDepth 100000 in
set_option maxHeartbeats 1000000 in
theorem known_43 (w : World) : Calls Tryz.prog 91 #[.int .i64 43] w fun e w' => e = .returned (.tuple #[.int .i64 36866, .string ⟨#[99, 46, 101, 98, 114, 101, 97, 107]⟩]) ∧ w' = w := by
  go_enter Tryz.func91, Tryz.ntmps91
  go_wp2
  go_ret2
  exact ⟨rfl, rfl⟩
set_option maxRecDepth 100000 in
set_option maxHeartbeats 1000000 in
theorem known_44 (w : World) : Calls Tryz.prog 91 #[.int .i64 44] w fun e w' => e = .returned (.tuple #[.int .i64 4353, .string ⟨#[99, 46, 97, 100, 100, 105, 32, 120, 50, 44, 32, 120, 50, 44, 32, 45, 51, 50]⟩]) ∧ w' = w := by
  go_enter Tryz.func91, Tryz.ntmps91
  go_wp2
  go_ret2
  exact ⟨rfl, rfl⟩
set_option maxRecDepth 100000 in
set_option maxHeartbeats 1000000 in
theorem known_45 (w : World) : Calls Tryz.prog 91 #[.int .i64 45] w fun e w' => e = .returned (.tuple #[.int .i64 4417, .string ⟨#[99, 46, 97, 100, 100, 105, 32, 120, 50, 44, 32, 120, 50, 44, 32, 45, 49, 54]⟩]) ∧ w' = w := by
  go_enter Tryz.func91, Tryz.ntmps91
  go_wp2
  go_ret2
  exact ⟨rfl, rfl⟩
set_option maxRecDepth 100000 in
set_option maxHeartbeats 1000000 in
theorem known_46 (w : World) : Calls Tryz.prog 91 #[.int .i64 46] w fun e w' => e = .returned (.tuple #[.int .i64 321, .string ⟨#[99, 46, 97, 100, 100, 105, 32, 120, 50, 44, 32, 120, 50, 44, 32, 49, 54]⟩]) ∧ w' = w := by
  go_enter Tryz.func91, Tryz.ntmps91
  go_wp2
  go_ret2
  exact ⟨rfl, rfl⟩
set_option maxRecDepth 100000 in
set_option maxHeartbeats 1000000 in
theorem known_47 (w : World) : Calls Tryz.prog 91 #[.int .i64 47] w fun e w' => e = .returned (.tuple #[.int .i64 2048, .string ⟨#[99, 46, 97, 100, 100, 105, 32, 120, 56, 44, 32, 120, 50, 44, 32, 49, 54]⟩]) ∧ w' = w := by
  go_enter Tryz.func91, Tryz.ntmps91
  go_wp2
  go_ret2
  exact ⟨rfl, rfl⟩
end
end Go.Proofs.YthfofjkfbhahoaaGreatDoor
