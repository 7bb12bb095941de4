import Derived.Test.YtmlgonbhoknoiaaNmS
import Derived.Test.YtmlgonbhoknoiaaLe
namespace Go.Proofs.Ytmlgonbhoknoiaa
open Go.RowKit
set_option linter.unusedSimpArgs false
set_option maxHeartbeats 2000000 in
theorem t_table (w : World) :
    Calls Try.prog 5 #[] w fun e w' => e = .returned (.bool true) ∧ w' = w := by
  go_enter Try.func5, Try.ntmps5
  go_wp2
  go_ret
  exact ⟨rfl, rfl⟩
theorem le_a : strOfNums (leL 305419896 4) = ⟨#[120, 86, 52, 18]⟩ := by decide +kernel
theorem le_b : strOfNums (leL (-1) 2) = ⟨#[255, 255]⟩ := by decide +kernel
theorem a_Le_a (w : World) : Calls Try.prog 15 #[.int .i64 305419896, .int .i64 4] w fun e w' => e = .returned (.string ⟨#[120, 86, 52, 18]⟩) ∧ Below w.heap.size w w' := by
  have h := a_Le 305419896 4 (by decide) w
  rw [le_a] at h
  exact h
theorem a_Le_b (w : World) : Calls Try.prog 15 #[.int .i64 (-1), .int .i64 2] w fun e w' => e = .returned (.string ⟨#[255, 255]⟩) ∧ Below w.heap.size w w' := by
  have h := a_Le (-1) 2 (by decide) w
  rw [le_b] at h
  exact h
set_option maxHeartbeats 2000000 in
theorem t_told (w : World) :
    Calls Try.prog 6 #[] w fun e w' => e = .returned (.bool true) ∧ Below w.heap.size w w' := by
  go_enter Try.func6, Try.ntmps6
  go_wp2
  go_loop [1] (fun x => ∃ op : Int, -1 ≤ op ∧ op ≤ 74 ∧ x = .int .i64 op) (fun x => (74 - intOf x).toNat)
  case atStart => exact ⟨-1, by omega, by omega, rfl⟩
  case round =>
    obtain ⟨op, h1, h2, rfl⟩ := hrel
    by_cases hlt : op ≤ 73
    · go_wp2_with fail
      refine (a_Name op _).mono ?_
      rintro e w' ⟨rfl, rfl⟩
      go_wp2_with fail
      refine (u_Name op _).mono ?_
      rintro e w' ⟨rfl, rfl⟩
      go_wp2_with fail
      refine (a_Shape op _).mono ?_
      rintro e w' ⟨rfl, rfl⟩
      go_wp2_with fail
      refine (u_Shape op _).mono ?_
      rintro e w' ⟨rfl, rfl⟩
      go_wp2_with fail
      go_round
      case rel => exact ⟨op + 1, by omega, by omega, rfl⟩
      case measure => simp [intOf]; omega
    · go_wp2_with fail
      refine (a_Le_a _).mono ?_
      rintro e w1 ⟨rfl, hb1⟩
      go_wp2_with fail
      refine (a_Le_b _).mono ?_
      rintro e w2 ⟨rfl, hb2⟩
      go_wp2_with fail
      go_ret
      exact ⟨rfl, hb1.trans (hb2.mono hb1.size)⟩
set_option maxHeartbeats 2000000 in
theorem t_Names (w : World) :
    Calls Try.prog 3 #[] w fun e w' => e = .returned (.bool true) ∧ Below w.heap.size w w' := by
  go_enter Try.func3, Try.ntmps3
  go_wp2_with (first | (go_at_call 5; refine (t_table _).mono ?_; rintro e w' ⟨rfl, rfl⟩) | (go_at_call 6; refine (t_told _).mono ?_; rintro e w1 ⟨rfl, hb1⟩) | go_in)
  go_ret
  exact ⟨rfl, hb1⟩
end Go.Proofs.Ytmlgonbhoknoiaa
