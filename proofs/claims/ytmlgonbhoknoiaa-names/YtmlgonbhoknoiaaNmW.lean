import Derived.Test.YtmlgonbhoknoiaaProg
import Derived.WalkKit
import Derived.ProofKit
import Derived.OpenShut
import Derived.WalkLawsBesides
import Derived.Test.YtmlgonbhoknoiaaNm
namespace Go.Proofs.Ytmlgonbhoknoiaa
open Go.RowKit

set_option maxHeartbeats 1000000 in
theorem a_nameLast (op : Int) (w : World) :
    Calls Try.prog 22 #[.int .i64 op] w fun e w' => e = .returned (.string (Nm.nameLast op)) ∧ w' = w := by
  go_enter Try.func22, Try.ntmps22
  go_wp2
  all_goals go_ret
  all_goals exact ⟨by simp [Nm.nameLast, *], rfl⟩

set_option maxHeartbeats 1000000 in
theorem a_nameFourth (op : Int) (w : World) :
    Calls Try.prog 20 #[.int .i64 op] w fun e w' => e = .returned (.string (Nm.nameFourth op)) ∧ w' = w := by
  go_enter Try.func20, Try.ntmps20
  go_wp2_with (go_at_call 22; refine (a_nameLast op _).mono ?_; rintro e w' ⟨rfl, rfl⟩)
  all_goals go_ret
  all_goals exact ⟨by simp [Nm.nameFourth, *], rfl⟩

set_option maxHeartbeats 1000000 in
theorem a_nameThird (op : Int) (w : World) :
    Calls Try.prog 18 #[.int .i64 op] w fun e w' => e = .returned (.string (Nm.nameThird op)) ∧ w' = w := by
  go_enter Try.func18, Try.ntmps18
  go_wp2_with (go_at_call 20; refine (a_nameFourth op _).mono ?_; rintro e w' ⟨rfl, rfl⟩)
  all_goals go_ret
  all_goals exact ⟨by simp [Nm.nameThird, *], rfl⟩

set_option maxHeartbeats 1000000 in
theorem a_nameSecond (op : Int) (w : World) :
    Calls Try.prog 16 #[.int .i64 op] w fun e w' => e = .returned (.string (Nm.nameSecond op)) ∧ w' = w := by
  go_enter Try.func16, Try.ntmps16
  go_wp2_with (go_at_call 18; refine (a_nameThird op _).mono ?_; rintro e w' ⟨rfl, rfl⟩)
  all_goals go_ret
  all_goals exact ⟨by simp [Nm.nameSecond, *], rfl⟩

set_option maxHeartbeats 1000000 in
theorem a_Name (op : Int) (w : World) :
    Calls Try.prog 11 #[.int .i64 op] w fun e w' => e = .returned (.string (Nm.name op)) ∧ w' = w := by
  go_enter Try.func11, Try.ntmps11
  go_wp2_with (go_at_call 16; refine (a_nameSecond op _).mono ?_; rintro e w' ⟨rfl, rfl⟩)
  all_goals go_ret
  all_goals exact ⟨by simp [Nm.name, *], rfl⟩

set_option maxHeartbeats 1000000 in
theorem u_nameLast (op : Int) (w : World) :
    Calls Try.prog 23 #[.int .i64 op] w fun e w' => e = .returned (.string (Nm.nameLast op)) ∧ w' = w := by
  go_enter Try.func23, Try.ntmps23
  go_wp2
  all_goals go_ret
  all_goals exact ⟨by simp [Nm.nameLast, *], rfl⟩

set_option maxHeartbeats 1000000 in
theorem u_nameFourth (op : Int) (w : World) :
    Calls Try.prog 21 #[.int .i64 op] w fun e w' => e = .returned (.string (Nm.nameFourth op)) ∧ w' = w := by
  go_enter Try.func21, Try.ntmps21
  go_wp2_with (go_at_call 23; refine (u_nameLast op _).mono ?_; rintro e w' ⟨rfl, rfl⟩)
  all_goals go_ret
  all_goals exact ⟨by simp [Nm.nameFourth, *], rfl⟩

set_option maxHeartbeats 1000000 in
theorem u_nameThird (op : Int) (w : World) :
    Calls Try.prog 19 #[.int .i64 op] w fun e w' => e = .returned (.string (Nm.nameThird op)) ∧ w' = w := by
  go_enter Try.func19, Try.ntmps19
  go_wp2_with (go_at_call 21; refine (u_nameFourth op _).mono ?_; rintro e w' ⟨rfl, rfl⟩)
  all_goals go_ret
  all_goals exact ⟨by simp [Nm.nameThird, *], rfl⟩

set_option maxHeartbeats 1000000 in
theorem u_nameSecond (op : Int) (w : World) :
    Calls Try.prog 17 #[.int .i64 op] w fun e w' => e = .returned (.string (Nm.nameSecond op)) ∧ w' = w := by
  go_enter Try.func17, Try.ntmps17
  go_wp2_with (go_at_call 19; refine (u_nameThird op _).mono ?_; rintro e w' ⟨rfl, rfl⟩)
  all_goals go_ret
  all_goals exact ⟨by simp [Nm.nameSecond, *], rfl⟩

set_option maxHeartbeats 1000000 in
theorem u_Name (op : Int) (w : World) :
    Calls Try.prog 12 #[.int .i64 op] w fun e w' => e = .returned (.string (Nm.name op)) ∧ w' = w := by
  go_enter Try.func12, Try.ntmps12
  go_wp2_with (go_at_call 17; refine (u_nameSecond op _).mono ?_; rintro e w' ⟨rfl, rfl⟩)
  all_goals go_ret
  all_goals exact ⟨by simp [Nm.name, *], rfl⟩

end Go.Proofs.Ytmlgonbhoknoiaa
