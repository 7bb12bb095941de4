import Derived.Test.YtmlgonbhoknoiabGreatDoorWAB
set_option maxHeartbeats 8000000
set_option linter.all false
namespace Go.Proofs.YtmlgonbhoknoiabGreatDoor
open Go.RowKit Go.Proofs.Tryz
theorem shape_ways (op : Int) : Nm.shape op =
 if op = 1 \/ op = 2 then ⟨#[100, 105]⟩ else
 if op = 3 then ⟨#[100, 106]⟩ else
 if op = 4 then ⟨#[100, 109]⟩ else
 if 5 <= op /\ op <= 10 then ⟨#[115, 116, 106]⟩ else
 if 11 <= op /\ op <= 15 then ⟨#[100, 109]⟩ else
 if 16 <= op /\ op <= 18 then ⟨#[116, 109]⟩ else
 if (19 <= op /\ op <= 27) \/ op = 38 \/ op = 39 \/ op = 50 then ⟨#[100, 115, 105]⟩ else
 if (28 <= op /\ op <= 37) \/ (42 <= op /\ op <= 49) then ⟨#[100, 115, 116]⟩ else
 if 51 <= op /\ op <= 60 then ⟨#[100, 116, 115, 105]⟩ else
 if 61 <= op /\ op <= 63 then ⟨#[100, 105, 115]⟩ else
 if 64 <= op /\ op <= 66 then ⟨#[100, 105, 117]⟩ else
 if op = 70 then ⟨#[115, 116]⟩ else
 if op = 71 \/ op = 72 then ⟨#[105]⟩ else ⟨#[]⟩ := by
 unfold Nm.shape
 simp only [Bool.cond_eq_ite, Bool.or_eq_true, Bool.and_eq_true, decide_eq_true_eq, beq_iff_eq, or_assoc]
theorem a_Shape (op : Int) (w : World) :
 CS 215 #[.int .i64 op] (.string (Nm.shape op)) w := by
 go_enter func215, ntmps215
 go_wp2
 all_goals go_ret
 all_goals go_light
 all_goals refine ⟨congrArg (fun s => Ending.returned (Value.string s)) (?_ : _ = Nm.shape op), rfl⟩
 all_goals try simp only [beq_iff_eq, beq_eq_false_iff_ne, ne_eq] at *
 all_goals first | (exfalso; omega) | (rw [shape_ways]; repeat (first | rw [if_pos (by omega)] | rw [if_neg (by omega)]))
end Go.Proofs.YtmlgonbhoknoiabGreatDoor
