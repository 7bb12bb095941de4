import Derived.Test.YtmlgonbhoknoiabGreatDoorWAA
set_option maxHeartbeats 8000000
set_option linter.all false
namespace Go.Proofs.YtmlgonbhoknoiabGreatDoor
open Go.RowKit Go.Proofs.Tryz
theorem a_nameLast (op : Int) (w : World) :
 CS 404 #[.int .i64 op] (.string (Nm.nameLast op)) w := by
 go_enter func404, ntmps404
 go_wp2
 all_goals go_ret
 all_goals exact ⟨by simp [Nm.nameLast, *], rfl⟩
theorem a_nameFourth (op : Int) (w : World) :
 CS 381 #[.int .i64 op] (.string (Nm.nameFourth op)) w := by
 go_enter func381, ntmps381
 go_wp2_with (go_at_call 404; refine (a_nameLast op _).mono ?_; rintro e w' ⟨rfl, rfl⟩)
 all_goals go_ret
 all_goals exact ⟨by simp [Nm.nameFourth, *], rfl⟩
theorem a_nameThird (op : Int) (w : World) :
 CS 353 #[.int .i64 op] (.string (Nm.nameThird op)) w := by
 go_enter func353, ntmps353
 go_wp2_with (go_at_call 381; refine (a_nameFourth op _).mono ?_; rintro e w' ⟨rfl, rfl⟩)
 all_goals go_ret
 all_goals exact ⟨by simp [Nm.nameThird, *], rfl⟩
theorem a_nameSecond (op : Int) (w : World) :
 CS 301 #[.int .i64 op] (.string (Nm.nameSecond op)) w := by
 go_enter func301, ntmps301
 go_wp2_with (go_at_call 353; refine (a_nameThird op _).mono ?_; rintro e w' ⟨rfl, rfl⟩)
 all_goals go_ret
 all_goals exact ⟨by simp [Nm.nameSecond, *], rfl⟩
theorem a_Name (op : Int) (w : World) :
 CS 212 #[.int .i64 op] (.string (Nm.name op)) w := by
 go_enter func212, ntmps212
 go_wp2_with (go_at_call 301; refine (a_nameSecond op _).mono ?_; rintro e w' ⟨rfl, rfl⟩)
 all_goals go_ret
 all_goals exact ⟨by simp [Nm.name, *], rfl⟩
end Go.Proofs.YtmlgonbhoknoiabGreatDoor
