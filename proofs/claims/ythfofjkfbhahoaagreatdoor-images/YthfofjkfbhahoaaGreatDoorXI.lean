import Derived.Test.YthfofjkfbhahoaaGreatDoorXG
section
namespace Go.Proofs.YthfofjkfbhahoaaGreatDoor
open Go.RowKit
set_option linter.unusedSimpArgs false
set_option maxRecDepth 100000 in
set_option maxHeartbeats 4000000 in
theorem r_word_50 (k : Int) (h1 : 50 ≤ k) (h2 : k ≤ 56) (w : World) :
    Calls Tryz.prog 108 #[.int .i64 k] w fun e w' => e = .returned (rowR (TabR.word k)) ∧ Below w.heap.size w w' := by
  have h : k = 50 ∨ k = 51 ∨ k = 52 ∨ k = 53 ∨ k = 54 ∨ k = 55 ∨ k = 56 := by omega
  rcases h with rfl | rfl | rfl | rfl | rfl | rfl | rfl
  all_goals
    go_enter Tryz.func108, Tryz.ntmps108
    go_wp2
    exact bodyPost_ret (v := rowR (TabR.word _)) (by simp [results, Tryz.results108, go_sem, rowR, TabR.word]) rfl ⟨rfl, by repeat (first | exact Below.refl _ _ | refine Below.setCell ?_ (by simp) _ | refine Below.alloc ?_ (by simp) _)⟩
set_option maxRecDepth 100000 in
set_option maxHeartbeats 4000000 in
theorem r_word_57 (k : Int) (h1 : 57 ≤ k) (h2 : k ≤ 63) (w : World) :
    Calls Tryz.prog 108 #[.int .i64 k] w fun e w' => e = .returned (rowR (TabR.word k)) ∧ Below w.heap.size w w' := by
  have h : k = 57 ∨ k = 58 ∨ k = 59 ∨ k = 60 ∨ k = 61 ∨ k = 62 ∨ k = 63 := by omega
  rcases h with rfl | rfl | rfl | rfl | rfl | rfl | rfl
  all_goals
    go_enter Tryz.func108, Tryz.ntmps108
    go_wp2
    exact bodyPost_ret (v := rowR (TabR.word _)) (by simp [results, Tryz.results108, go_sem, rowR, TabR.word]) rfl ⟨rfl, by repeat (first | exact Below.refl _ _ | refine Below.setCell ?_ (by simp) _ | refine Below.alloc ?_ (by simp) _)⟩
set_option maxRecDepth 100000 in
set_option maxHeartbeats 4000000 in
theorem r_word_64 (k : Int) (h1 : 64 ≤ k) (h2 : k ≤ 70) (w : World) :
    Calls Tryz.prog 108 #[.int .i64 k] w fun e w' => e = .returned (rowR (TabR.word k)) ∧ Below w.heap.size w w' := by
  have h : k = 64 ∨ k = 65 ∨ k = 66 ∨ k = 67 ∨ k = 68 ∨ k = 69 ∨ k = 70 := by omega
  rcases h with rfl | rfl | rfl | rfl | rfl | rfl | rfl
  all_goals
    go_enter Tryz.func108, Tryz.ntmps108
    go_wp2
    exact bodyPost_ret (v := rowR (TabR.word _)) (by simp [results, Tryz.results108, go_sem, rowR, TabR.word]) rfl ⟨rfl, by repeat (first | exact Below.refl _ _ | refine Below.setCell ?_ (by simp) _ | refine Below.alloc ?_ (by simp) _)⟩
end Go.Proofs.YthfofjkfbhahoaaGreatDoor
end
