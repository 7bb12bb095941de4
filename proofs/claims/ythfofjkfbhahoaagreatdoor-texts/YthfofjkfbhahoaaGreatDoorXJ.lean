import Derived.Test.YthfofjkfbhahoaaGreatDoorXG
import Derived.Test.YthfofjkfbhahoaaGreatDoorXH
import Derived.Test.YthfofjkfbhahoaaGreatDoorXI
section
namespace Go.Proofs.YthfofjkfbhahoaaGreatDoor
open Go.RowKit
set_option linter.unusedSimpArgs false
set_option maxRecDepth 100000 in
set_option maxHeartbeats 4000000 in
theorem r_half_1 (k : Int) (h1 : 1 ≤ k) (h2 : k ≤ 7) (w : World) :
    Calls Tryz.prog 110 #[.int .i64 k] w fun e w' => e = .returned (rowR (TabR.half k)) ∧ Below w.heap.size w w' := by
  have h : k = 1 ∨ k = 2 ∨ k = 3 ∨ k = 4 ∨ k = 5 ∨ k = 6 ∨ k = 7 := by omega
  rcases h with rfl | rfl | rfl | rfl | rfl | rfl | rfl
  all_goals
    go_enter Tryz.func110, Tryz.ntmps110
    go_wp2
    exact bodyPost_ret (v := rowR (TabR.half _)) (by simp [results, Tryz.results110, go_sem, rowR, TabR.half]) rfl ⟨rfl, by repeat (first | exact Below.refl _ _ | refine Below.setCell ?_ (by simp) _ | refine Below.alloc ?_ (by simp) _)⟩
set_option maxRecDepth 100000 in
set_option maxHeartbeats 4000000 in
theorem r_half_8 (k : Int) (h1 : 8 ≤ k) (h2 : k ≤ 14) (w : World) :
    Calls Tryz.prog 110 #[.int .i64 k] w fun e w' => e = .returned (rowR (TabR.half k)) ∧ Below w.heap.size w w' := by
  have h : k = 8 ∨ k = 9 ∨ k = 10 ∨ k = 11 ∨ k = 12 ∨ k = 13 ∨ k = 14 := by omega
  rcases h with rfl | rfl | rfl | rfl | rfl | rfl | rfl
  all_goals
    go_enter Tryz.func110, Tryz.ntmps110
    go_wp2
    exact bodyPost_ret (v := rowR (TabR.half _)) (by simp [results, Tryz.results110, go_sem, rowR, TabR.half]) rfl ⟨rfl, by repeat (first | exact Below.refl _ _ | refine Below.setCell ?_ (by simp) _ | refine Below.alloc ?_ (by simp) _)⟩
set_option maxRecDepth 100000 in
set_option maxHeartbeats 4000000 in
theorem r_half_15 (k : Int) (h1 : 15 ≤ k) (h2 : k ≤ 21) (w : World) :
    Calls Tryz.prog 110 #[.int .i64 k] w fun e w' => e = .returned (rowR (TabR.half k)) ∧ Below w.heap.size w w' := by
  have h : k = 15 ∨ k = 16 ∨ k = 17 ∨ k = 18 ∨ k = 19 ∨ k = 20 ∨ k = 21 := by omega
  rcases h with rfl | rfl | rfl | rfl | rfl | rfl | rfl
  all_goals
    go_enter Tryz.func110, Tryz.ntmps110
    go_wp2
    exact bodyPost_ret (v := rowR (TabR.half _)) (by simp [results, Tryz.results110, go_sem, rowR, TabR.half]) rfl ⟨rfl, by repeat (first | exact Below.refl _ _ | refine Below.setCell ?_ (by simp) _ | refine Below.alloc ?_ (by simp) _)⟩
set_option maxRecDepth 100000 in
set_option maxHeartbeats 4000000 in
theorem r_half_22 (k : Int) (h1 : 22 ≤ k) (h2 : k ≤ 26) (w : World) :
    Calls Tryz.prog 110 #[.int .i64 k] w fun e w' => e = .returned (rowR (TabR.half k)) ∧ Below w.heap.size w w' := by
  have h : k = 22 ∨ k = 23 ∨ k = 24 ∨ k = 25 ∨ k = 26 := by omega
  rcases h with rfl | rfl | rfl | rfl | rfl
  all_goals
    go_enter Tryz.func110, Tryz.ntmps110
    go_wp2
    exact bodyPost_ret (v := rowR (TabR.half _)) (by simp [results, Tryz.results110, go_sem, rowR, TabR.half]) rfl ⟨rfl, by repeat (first | exact Below.refl _ _ | refine Below.setCell ?_ (by simp) _ | refine Below.alloc ?_ (by simp) _)⟩
end Go.Proofs.YthfofjkfbhahoaaGreatDoor
end
section
namespace Go.Proofs.YthfofjkfbhahoaaGreatDoor
open Go.RowKit
theorem r_word (k : Int) (h1 : 1 ≤ k) (h2 : k ≤ 70) (w : World) :
    Calls Tryz.prog 108 #[.int .i64 k] w fun e w' => e = .returned (rowR (TabR.word k)) ∧ Below w.heap.size w w' := by
  by_cases c1 : k ≤ 7
  · exact r_word_1 k (by omega) c1 w
  by_cases c8 : k ≤ 14
  · exact r_word_8 k (by omega) c8 w
  by_cases c15 : k ≤ 21
  · exact r_word_15 k (by omega) c15 w
  by_cases c22 : k ≤ 28
  · exact r_word_22 k (by omega) c22 w
  by_cases c29 : k ≤ 35
  · exact r_word_29 k (by omega) c29 w
  by_cases c36 : k ≤ 42
  · exact r_word_36 k (by omega) c36 w
  by_cases c43 : k ≤ 49
  · exact r_word_43 k (by omega) c43 w
  by_cases c50 : k ≤ 56
  · exact r_word_50 k (by omega) c50 w
  by_cases c57 : k ≤ 63
  · exact r_word_57 k (by omega) c57 w
  exact r_word_64 k (by omega) h2 w
theorem r_half (k : Int) (h1 : 1 ≤ k) (h2 : k ≤ 26) (w : World) :
    Calls Tryz.prog 110 #[.int .i64 k] w fun e w' => e = .returned (rowR (TabR.half k)) ∧ Below w.heap.size w w' := by
  by_cases c1 : k ≤ 7
  · exact r_half_1 k (by omega) c1 w
  by_cases c8 : k ≤ 14
  · exact r_half_8 k (by omega) c8 w
  by_cases c15 : k ≤ 21
  · exact r_half_15 k (by omega) c15 w
  exact r_half_22 k (by omega) h2 w
end Go.Proofs.YthfofjkfbhahoaaGreatDoor
end
