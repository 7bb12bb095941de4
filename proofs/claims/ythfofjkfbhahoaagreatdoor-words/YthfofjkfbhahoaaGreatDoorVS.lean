import Derived.Test.YthfofjkfbhahoaaGreatDoorVR
namespace Go.Proofs.YthfofjkfbhahoaaGreatDoor
section
open Go.RowKit
set_option linter.unusedSimpArgs false
set_option maxRecDepth 100000 in
set_option maxHeartbeats 1000000 in
theorem known_80 (w : World) : Calls Tryz.prog 91 #[.int .i64 80] w fun e w' => e = .returned (.tuple #[.int .i64 34705, .string ⟨#[99, 46, 115, 114, 97, 105, 32, 120, 49, 53, 44, 32, 120, 49, 53, 44, 32, 52]⟩]) ∧ w' = w := by
  go_enter Tryz.func91, Tryz.ntmps91
  go_wp2
  go_ret2
  exact ⟨rfl, rfl⟩
set_option maxRecDepth 100000 in
set_option maxHeartbeats 1000000 in
theorem known_81 (w : World) : Calls Tryz.prog 91 #[.int .i64 81] w fun e w' => e = .returned (.tuple #[.int .i64 1934, .string ⟨#[99, 46, 115, 108, 108, 105, 32, 120, 49, 53, 44, 32, 120, 49, 53, 44, 32, 51]⟩]) ∧ w' = w := by
  go_enter Tryz.func91, Tryz.ntmps91
  go_wp2
  go_ret2
  exact ⟨rfl, rfl⟩
set_option maxRecDepth 100000 in
set_option maxHeartbeats 1000000 in
theorem known_82 (w : World) : Calls Tryz.prog 91 #[.int .i64 82] w fun e w' => e = .returned (.tuple #[.int .i64 36761, .string ⟨#[99, 46, 115, 117, 98, 32, 120, 49, 53, 44, 32, 120, 49, 53, 44, 32, 120, 49, 52]⟩]) ∧ w' = w := by
  go_enter Tryz.func91, Tryz.ntmps91
  go_wp2
  go_ret2
  exact ⟨rfl, rfl⟩
set_option maxRecDepth 100000 in
set_option maxHeartbeats 1000000 in
theorem known_83 (w : World) : Calls Tryz.prog 91 #[.int .i64 83] w fun e w' => e = .returned (.tuple #[.int .i64 36793, .string ⟨#[99, 46, 120, 111, 114, 32, 120, 49, 53, 44, 32, 120, 49, 53, 44, 32, 120, 49, 52]⟩]) ∧ w' = w := by
  go_enter Tryz.func91, Tryz.ntmps91
  go_wp2
  go_ret2
  exact ⟨rfl, rfl⟩
set_option maxRecDepth 100000 in
set_option maxHeartbeats 1000000 in
theorem known_84 (w : World) : Calls Tryz.prog 91 #[.int .i64 84] w fun e w' => e = .returned (.tuple #[.int .i64 36825, .string ⟨#[99, 46, 111, 114, 32, 120, 49, 53, 44, 32, 120, 49, 53, 44, 32, 120, 49, 52]⟩]) ∧ w' = w := by
  go_enter Tryz.func91, Tryz.ntmps91
  go_wp2
  go_ret2
  exact ⟨rfl, rfl⟩
set_option maxRecDepth 100000 in
set_option maxHeartbeats 1000000 in
theorem known_85 (w : World) : Calls Tryz.prog 91 #[.int .i64 85] w fun e w' => e = .returned (.tuple #[.int .i64 36857, .string ⟨#[99, 46, 97, 110, 100, 32, 120, 49, 53, 44, 32, 120, 49, 53, 44, 32, 120, 49, 52]⟩]) ∧ w' = w := by
  go_enter Tryz.func91, Tryz.ntmps91
  go_wp2
  go_ret2
  exact ⟨rfl, rfl⟩
set_option maxRecDepth 100000 in
set_option maxHeartbeats 1000000 in
theorem known_86 (w : World) : Calls Tryz.prog 91 #[.int .i64 86] w fun e w' => e = .returned (.tuple #[.int .i64 26569, .string ⟨#[99, 46, 108, 117, 105, 32, 120, 49, 53, 44, 32, 49, 56]⟩]) ∧ w' = w := by
  go_enter Tryz.func91, Tryz.ntmps91
  go_wp2
  go_ret2
  exact ⟨rfl, rfl⟩
set_option maxRecDepth 100000 in
set_option maxHeartbeats 1000000 in
theorem known_87 (w : World) : Calls Tryz.prog 91 #[.int .i64 87] w fun e w' => e = .returned (.tuple #[.int .i64 30717, .string ⟨#[99, 46, 108, 117, 105, 32, 120, 49, 53, 44, 32, 45, 49]⟩]) ∧ w' = w := by
  go_enter Tryz.func91, Tryz.ntmps91
  go_wp2
  go_ret2
  exact ⟨rfl, rfl⟩
set_option maxRecDepth 100000 in
set_option maxHeartbeats 1000000 in
theorem known_88 (w : World) : Calls Tryz.prog 91 #[.int .i64 88] w fun e w' => e = .returned (.tuple #[.int .i64 50065, .string ⟨#[99, 46, 98, 101, 113, 32, 120, 49, 53, 44, 32, 120, 48, 44, 32, 52]⟩]) ∧ w' = w := by
  go_enter Tryz.func91, Tryz.ntmps91
  go_wp2
  go_ret2
  exact ⟨rfl, rfl⟩
set_option maxRecDepth 100000 in
set_option maxHeartbeats 1000000 in
theorem known_89 (w : World) : Calls Tryz.prog 91 #[.int .i64 89] w fun e w' => e = .returned (.tuple #[.int .i64 58257, .string ⟨#[99, 46, 98, 110, 101, 32, 120, 49, 53, 44, 32, 120, 48, 44, 32, 52]⟩]) ∧ w' = w := by
  go_enter Tryz.func91, Tryz.ntmps91
  go_wp2
  go_ret2
  exact ⟨rfl, rfl⟩
set_option maxRecDepth 100000 in
set_option maxHeartbeats 1000000 in
theorem known_90 (w : World) : Calls Tryz.prog 91 #[.int .i64 90] w fun e w' => e = .returned (.tuple #[.int .i64 40961, .string ⟨#[99, 46, 106, 97, 108, 32, 120, 48, 44, 32, 48]⟩]) ∧ w' = w := by
  go_enter Tryz.func91, Tryz.ntmps91
  go_wp2
  go_ret2
  exact ⟨rfl, rfl⟩
set_option maxRecDepth 100000 in
set_option maxHeartbeats 1000000 in
theorem known_91 (w : World) : Calls Tryz.prog 91 #[.int .i64 91] w fun e w' => e = .returned (.tuple #[.int .i64 40977, .string ⟨#[99, 46, 106, 97, 108, 32, 120, 48, 44, 32, 52]⟩]) ∧ w' = w := by
  go_enter Tryz.func91, Tryz.ntmps91
  go_wp2
  go_ret2
  exact ⟨rfl, rfl⟩
set_option maxRecDepth 100000 in
set_option maxHeartbeats 1000000 in
theorem known_92 (w : World) : Calls Tryz.prog 91 #[.int .i64 92] w fun e w' => e = .returned (.tuple #[.int .i64 49093, .string ⟨#[99, 46, 106, 97, 108, 32, 120, 48, 44, 32, 45, 49, 54]⟩]) ∧ w' = w := by
  go_enter Tryz.func91, Tryz.ntmps91
  go_wp2
  go_ret2
  exact ⟨rfl, rfl⟩
set_option maxRecDepth 100000 in
set_option maxHeartbeats 1000000 in
theorem known_93 (w : World) : Calls Tryz.prog 91 #[.int .i64 93] w fun e w' => e = .returned (.tuple #[.int .i64 8193, .string ⟨#[99, 46, 106, 97, 108, 32, 120, 49, 44, 32, 48]⟩]) ∧ w' = w := by
  go_enter Tryz.func91, Tryz.ntmps91
  go_wp2
  go_ret2
  exact ⟨rfl, rfl⟩
set_option maxRecDepth 100000 in
set_option maxHeartbeats 1000000 in
theorem known_94 (w : World) : Calls Tryz.prog 91 #[.int .i64 94] w fun e w' => e = .returned (.tuple #[.int .i64 0, .string ⟨#[46, 104, 97, 108, 102, 32, 48]⟩]) ∧ w' = w := by
  go_enter Tryz.func91, Tryz.ntmps91
  go_wp2
  go_ret2
  exact ⟨rfl, rfl⟩
set_option maxRecDepth 100000 in
set_option maxHeartbeats 1000000 in
theorem known_95 (w : World) : Calls Tryz.prog 91 #[.int .i64 95] w fun e w' => e = .returned (.tuple #[.int .i64 39937, .string ⟨#[46, 104, 97, 108, 102, 32, 51, 57, 57, 51, 55]⟩]) ∧ w' = w := by
  go_enter Tryz.func91, Tryz.ntmps91
  go_wp2
  go_ret2
  exact ⟨rfl, rfl⟩
end
section
open Go.RowKit
set_option linter.unusedSimpArgs false
theorem k_known (k : Nat) (h : k < 96) (w : World) : Calls Tryz.prog 91 #[.int .i64 k] w fun e w' => e = .returned (.tuple #[.int .i64 (Gold.w k), Byt.strV (Gold.l k)]) ∧ w' = w := by
  match k, h with
  | 0, _ => exact known_0 w
  | 1, _ => exact known_1 w
  | 2, _ => exact known_2 w
  | 3, _ => exact known_3 w
  | 4, _ => exact known_4 w
  | 5, _ => exact known_5 w
  | 6, _ => exact known_6 w
  | 7, _ => exact known_7 w
  | 8, _ => exact known_8 w
  | 9, _ => exact known_9 w
  | 10, _ => exact known_10 w
  | 11, _ => exact known_11 w
  | 12, _ => exact known_12 w
  | 13, _ => exact known_13 w
  | 14, _ => exact known_14 w
  | 15, _ => exact known_15 w
  | 16, _ => exact known_16 w
  | 17, _ => exact known_17 w
  | 18, _ => exact known_18 w
  | 19, _ => exact known_19 w
  | 20, _ => exact known_20 w
  | 21, _ => exact known_21 w
  | 22, _ => exact known_22 w
  | 23, _ => exact known_23 w
  | 24, _ => exact known_24 w
  | 25, _ => exact known_25 w
  | 26, _ => exact known_26 w
  | 27, _ => exact known_27 w
  | 28, _ => exact known_28 w
  | 29, _ => exact known_29 w
  | 30, _ => exact known_30 w
  | 31, _ => exact known_31 w
  | 32, _ => exact known_32 w
  | 33, _ => exact known_33 w
  | 34, _ => exact known_34 w
  | 35, _ => exact known_35 w
  | 36, _ => exact known_36 w
  | 37, _ => exact known_37 w
  | 38, _ => exact known_38 w
  | 39, _ => exact known_39 w
  | 40, _ => exact known_40 w
  | 41, _ => exact known_41 w
  | 42, _ => exact known_42 w
  | 43, _ => exact known_43 w
  | 44, _ => exact known_44 w
  | 45, _ => exact known_45 w
  | 46, _ => exact known_46 w
  | 47, _ => exact known_47 w
  | 48, _ => exact known_48 w
  | 49, _ => exact known_49 w
  | 50, _ => exact known_50 w
  | 51, _ => exact known_51 w
  | 52, _ => exact known_52 w
  | 53, _ => exact known_53 w
  | 54, _ => exact known_54 w
  | 55, _ => exact known_55 w
  | 56, _ => exact known_56 w
  | 57, _ => exact known_57 w
  | 58, _ => exact known_58 w
  | 59, _ => exact known_59 w
  | 60, _ => exact known_60 w
  | 61, _ => exact known_61 w
  | 62, _ => exact known_62 w
  | 63, _ => exact known_63 w
  | 64, _ => exact known_64 w
  | 65, _ => exact known_65 w
  | 66, _ => exact known_66 w
  | 67, _ => exact known_67 w
  | 68, _ => exact known_68 w
  | 69, _ => exact known_69 w
  | 70, _ => exact known_70 w
  | 71, _ => exact known_71 w
  | 72, _ => exact known_72 w
  | 73, _ => exact known_73 w
  | 74, _ => exact known_74 w
  | 75, _ => exact known_75 w
  | 76, _ => exact known_76 w
  | 77, _ => exact known_77 w
  | 78, _ => exact known_78 w
  | 79, _ => exact known_79 w
  | 80, _ => exact known_80 w
  | 81, _ => exact known_81 w
  | 82, _ => exact known_82 w
  | 83, _ => exact known_83 w
  | 84, _ => exact known_84 w
  | 85, _ => exact known_85 w
  | 86, _ => exact known_86 w
  | 87, _ => exact known_87 w
  | 88, _ => exact known_88 w
  | 89, _ => exact known_89 w
  | 90, _ => exact known_90 w
  | 91, _ => exact known_91 w
  | 92, _ => exact known_92 w
  | 93, _ => exact known_93 w
  | 94, _ => exact known_94 w
  | 95, _ => exact known_95 w
  | n + 96, h => exact absurd h (by omega)
end
end Go.Proofs.YthfofjkfbhahoaaGreatDoor
