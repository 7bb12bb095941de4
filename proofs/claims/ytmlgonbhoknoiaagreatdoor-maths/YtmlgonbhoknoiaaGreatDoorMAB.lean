import Derived.Test.YtmlgonbhoknoiaaGreatDoorMAA
set_option maxHeartbeats 8000000
set_option linter.all false
namespace Go.Proofs.YtmlgonbhoknoiaaGreatDoor
open Go.RowKit Go.Proofs.Tryz
theorem a_nameLast (op : Int) (w : World) :
 CS 405 #[.int .i64 op] (.string (Nm.nameLast op)) w := by
 go_enter func405, ntmps405
 go_wp2
 all_goals go_ret
 all_goals exact ⟨by simp [Nm.nameLast, *], rfl⟩
theorem a_nameFourth (op : Int) (w : World) :
 CS 382 #[.int .i64 op] (.string (Nm.nameFourth op)) w := by
 go_enter func382, ntmps382
 go_wp2_with (go_at_call 405; refine (a_nameLast op _).mono ?_; rintro e w' ⟨rfl, rfl⟩)
 all_goals go_ret
 all_goals exact ⟨by simp [Nm.nameFourth, *], rfl⟩
theorem a_nameThird (op : Int) (w : World) :
 CS 354 #[.int .i64 op] (.string (Nm.nameThird op)) w := by
 go_enter func354, ntmps354
 go_wp2_with (go_at_call 382; refine (a_nameFourth op _).mono ?_; rintro e w' ⟨rfl, rfl⟩)
 all_goals go_ret
 all_goals exact ⟨by simp [Nm.nameThird, *], rfl⟩
theorem a_nameSecond (op : Int) (w : World) :
 CS 304 #[.int .i64 op] (.string (Nm.nameSecond op)) w := by
 go_enter func304, ntmps304
 go_wp2_with (go_at_call 354; refine (a_nameThird op _).mono ?_; rintro e w' ⟨rfl, rfl⟩)
 all_goals go_ret
 all_goals exact ⟨by simp [Nm.nameSecond, *], rfl⟩
theorem a_Name (op : Int) (w : World) :
 CS 219 #[.int .i64 op] (.string (Nm.name op)) w := by
 go_enter func219, ntmps219
 go_wp2_with (go_at_call 304; refine (a_nameSecond op _).mono ?_; rintro e w' ⟨rfl, rfl⟩)
 all_goals go_ret
 all_goals exact ⟨by simp [Nm.name, *], rfl⟩
end Go.Proofs.YtmlgonbhoknoiaaGreatDoor
