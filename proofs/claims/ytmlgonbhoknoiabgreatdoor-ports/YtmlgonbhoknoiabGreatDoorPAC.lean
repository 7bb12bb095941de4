import Derived.Test.YtmlgonbhoknoiabGreatDoorBAU
import Derived.Test.YtmlgonbhoknoiabGreatDoorPAA
import Derived.Test.YtmlgonbhoknoiabGreatDoorPQ
set_option maxHeartbeats 8000000
set_option linter.all false
namespace Go.Proofs.YtmlgonbhoknoiabGreatDoor
open Go.RowKit Go.Proofs.Tryz
section
attribute [local go_sem ↓] Go.wp_at_zero Go.wp_at_succ
set_option maxRecDepth 100000 in
theorem k_amos (a b : Int) (w : World) : Calls prog 49 #[.int .i64 a, .int .i64 b] w fun o w' => BoolR o /\ Kept [] w w' := by
 go_enter func49, ntmps49
 go_wp2_with fail
 refine (k_built _ _ _ w).mono ?_
 rintro o w1 ⟨rfl | ⟨mb, rb, l1, l2, rfl, hm⟩, hk⟩
 . exact zp14
 have M1 := hide1 hm
 have K1 := hide1 hk
 clear hm hk
 go_wp2_with fail
 refine (m_Run mb rb _ 30 w1 M1.out).mono ?_
 rintro o w2 ⟨⟨v, er, q0, q1, rfl⟩, hm, hk⟩
 have M2 := hide1 hm
 have K2 := hide1 (kept_new K1.out hk l1 l2)
 clear hm hk M1 K1
 have RG := hide1 (fun i => m_Reg0 mb rb w2 M2.out.m i)
 by_cases h30 : v = 30
 . subst h30
   go_wp2_with fail
   go_loopw [8] (fun c wr => ∃ i : Nat, i <= 21 /\ c = .int .i64 i /\ wr = w2) (fun c _ => 30 - (intOf c).toNat)
   case atStart => exact ⟨3, by omega, rfl, rfl⟩
   case round =>
    obtain ⟨i, hi, rfl, rfl⟩ := hrel
    by_cases hlt : i < 20
    . have hlt' : decide ((i : Int) < 20) = true := by simp; omega
      go_wp2_with (first | (go_at_call 91; refine (RG.out _).mono ?_; rintro o wq ⟨⟨v, h0, h1, rfl⟩, hwq⟩; rw [hwq]; clear hwq wq))
      all_goals first
       | (go_ret; exact ⟨⟨_, rfl⟩, K2.out⟩)
       | (go_roundw
          case rel => exact ⟨i + 2, by omega, by go_num, by first | rfl | trivial⟩
          case measure => simp [intOf]; omega)
    . have hlt' : decide ((i : Int) < 20) = false := by simp; omega
      go_wp2_with (first | (go_at_call 91; refine (RG.out _).mono ?_; rintro o wq ⟨⟨v, h0, h1, rfl⟩, hwq⟩; rw [hwq]; clear hwq wq) | (go_at_call 98; refine (k_minusA _ _).mono ?_; rintro o wq ⟨⟨vm, rfl⟩, hwq⟩; rw [hwq]; clear hwq wq))
      all_goals
       go_ret
       exact ⟨⟨_, rfl⟩, K2.out⟩
 . have q : (v != 30) = true := by simp [h30]
   have q' : (v == 30) = false := by simp [h30]
   clear h30
   go_wp2_with fail
   go_ret
   exact ⟨⟨_, rfl⟩, K2.out⟩
end
end Go.Proofs.YtmlgonbhoknoiabGreatDoor
