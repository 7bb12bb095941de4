import Derived.Test.YthfofjkfbhahoaaGreatDoorXG
section
namespace Go.Proofs.YthfofjkfbhahoaaGreatDoor
open Go.RowKit
set_option linter.unusedSimpArgs false
set_option maxRecDepth 100000 in
set_option maxHeartbeats 4000000 in
theorem r_word_29 (k : Int) (h1 : 29 ≤ k) (h2 : k ≤ 35) (w : World) :
    Calls Tryz.prog 108 #[.int .i64 k] w fun e w' => e = .returned (rowR (TabR.word k)) ∧ Below w.heap.size w w' := by
  have h : k = 29 ∨ k = 30 ∨ k = 31 ∨ k = 32 ∨ k = 33 ∨ k = 34 ∨ k = 35 := by omega
  rcases h with rfl | rfl | rfl | rfl | rfl | rfl | rfl
  all_goals
    go_enter Tryz.func108, Tryz.ntmps108
    go_wp2
    exact bodyPost_ret (v := rowR (TabR.word _)) (by simp [results, Tryz.results108, go_sem, rowR, TabR.word]) rfl ⟨rfl, by repeat (first | exact Below.refl _ _ | refine Below.setCell ?_ (by simp) _ | refine Below.alloc ?_ (by simp) _)⟩
set_option maxRecDepth 100000 in
set_option maxHeartbeats 4000000 in
theorem r_word_36 (k : Int) (h1 : 36 ≤ k) (h2 : k ≤ 42) (w : World) :
    Calls Tryz.prog 108 #[.int .i64 k] w fun e w' => e = .returned (rowR (TabR.word k)) ∧ Below w.heap.size w w' := by
  have h : k = 36 ∨ k = 37 ∨ k = 38 ∨ k = 39 ∨ k = 40 ∨ k = 41 ∨ k = 42 := by omega
  rcases h with rfl | rfl | rfl | rfl | rfl | rfl | rfl
  all_goals
    go_enter Tryz.func108, Tryz.ntmps108
    go_wp2
    exact bodyPost_ret (v := rowR (TabR.word _)) (by simp [results, Tryz.results108, go_sem, rowR, TabR.word]) rfl ⟨rfl, by repeat (first | exact Below.refl _ _ | refine Below.setCell ?_ (by simp) _ | refine Below.alloc ?_ (by simp) _)⟩
set_option maxRecDepth 100000 in
set_option maxHeartbeats 4000000 in
theorem r_word_43 (k : Int) (h1 : 43 ≤ k) (h2 : k ≤ 49) (w : World) :
    Calls Tryz.prog 108 #[.int .i64 k] w fun e w' => e = .returned (rowR (TabR.word k)) ∧ Below w.heap.size w w' := by
  have h : k = 43 ∨ k = 44 ∨ k = 45 ∨ k = 46 ∨ k = 47 ∨ k = 48 ∨ k = 49 := by omega
  rcases h with rfl | rfl | rfl | rfl | rfl | rfl | rfl
  all_goals
    go_enter Tryz.func108, Tryz.ntmps108
    go_wp2
    exact bodyPost_ret (v := rowR (TabR.word _)) (by simp [results, Tryz.results108, go_sem, rowR, TabR.word]) rfl ⟨rfl, by repeat (first | exact Below.refl _ _ | refine Below.setCell ?_ (by simp) _ | refine Below.alloc ?_ (by simp) _)⟩
end Go.Proofs.YthfofjkfbhahoaaGreatDoor
end
