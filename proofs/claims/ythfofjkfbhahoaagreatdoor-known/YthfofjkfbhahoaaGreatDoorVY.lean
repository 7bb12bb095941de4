import Derived.Test.YthfofjkfbhahoaaGreatDoorVV
import Derived.Test.YthfofjkfbhahoaaGreatDoorKpJ0
import Derived.Test.YthfofjkfbhahoaaGreatDoorKpJ1
import Derived.Test.YthfofjkfbhahoaaGreatDoorKpJ2
import Derived.Test.YthfofjkfbhahoaaGreatDoorKpJ3
namespace Go.Proofs.YthfofjkfbhahoaaGreatDoor
open Go.ChangeShapes Go.WideShapes Go.ChangeAt Go.WideMaps Go.WideElems Go.RowKit
set_option linter.unusedVariables false
set_option linter.unusedSimpArgs false
set_option maxHeartbeats 1000000 in
theorem k_Known (p : Option Addr) (cap : Nat) (L : List KOp) (hL : L.length ≤ 1125899906842624) (hok : Hid (∀ x ∈ L, KOk x)) (w : World) (hw : Hid (OpsAt w p L)) (ht : Hid (Tb w)) :
    Calls Tryz.prog 8 #[.slice p L.length cap] w fun e w' => e = .returned (.bool true) ∧ Below w.heap.size w w' := by
  have hmk : (Instr.buildSlice 27 1 #[(0, .int .i64 37)]).run Tryz.prog w = .ok (.slice (some ⟨w.heap.size, 0, none⟩) 1 1) (w.alloc (.cells #[.int .i64 37] 3)) := by kernel_rfl
  have hbw : Below w.heap.size w (w.alloc (.cells #[.int .i64 37] 3)) := (Below.refl _ _).alloc (Nat.le_refl _) _
  have hp := k_plays p cap L hL hok w.heap.size 37 (.inr rfl) (w.alloc (.cells #[.int .i64 37] 3)) (hide1 (hw.out.below hbw)) (hide1 (ht.out.more hbw)) (by simp) (by simp)
  have HP := hide1 hp
  have HBW := hide1 hbw
  clear hp hbw
  go_enter Tryz.func8, Tryz.ntmps8
  go_wp2_with fail
  refine HP.out.mono ?_
  rintro e w1 ⟨rfl, hb1⟩
  go_wp2
  go_ret
  exact ⟨rfl, HBW.out.trans (hb1.mono HBW.out.size)⟩
set_option maxRecDepth 100000 in
theorem known_lifted (os : Os) (started : os.Started) (H : Type) (enc : TypeId × Value → H) :
    ReturnsInHanded {} Tryz.checked os 8 .any (fun w args => (Rows.knownSpec.pre enc Tryz.prog Tryz.f8 [] false w args ∧ laidMetH Tryz.prog laid3 w) ∧ sizedMet enc Tryz.prog Tryz.f8 (OpenSpec.ofChange Rows.knownSpec) false w args)
      (Rows.knownSpec.post enc Tryz.prog Tryz.f8 false true false false) := by
  refine returnsInHanded_of_change_and (C := Tryz.checked) (X := fun w _ => laidMetH Tryz.prog laid3 w) (fun _ _ _ hh h => h.of_heap hh) k_own started (by kernel_rfl) Tryz.func8
    (ChangeSpec.witness_shaped (enc := enc) (C := Tryz.checked) (os := os) (X := fun w _ => laidMetH Tryz.prog laid3 w) false (World.doorLaid Tryz.prog 400 os) #[.slice none 0 0] 8 rfl (World.shaped_of_RefB (by kernel_rfl) (by kernel_rfl)) (by kernel_rfl) (by kernel_rfl) (by kernel_rfl) (door_met os _)) ?_
  intro W base args ds gs before hval0 hW _ hsz hL _
  have hval : ∀ (j : Nat) t v, Tryz.f8.params[j]? = some t → args[j]? = some v → Value.okWide Tryz.prog W .any base t v := hval0
  have hW' := hW
  obtain ⟨p, q, hA0, hV, rfl, hfz, hnd⟩ := hW
  have hA : DataW.TrodAll enc Tryz.prog W 0 (fun _ => true) true Tryz.f8.params.toList args.toList ds p := hA0
  have hsz' : (DataW.weightsEach Tryz.prog (Tryz.f8.params.toList ++ Rows.knownSpec.plain.varTypes Tryz.prog) (ds ++ gs)).all (· ≤ reachBytes) = true := hsz
  rw [Tryz.params8] at hA hval hsz'
  obtain ⟨v0, d0, rfl, rfl, h0⟩ := trodAll_one hA
  obtain ⟨rfl, rfl⟩ := trodVars_none hV
  clear hA0 hval0 hsz
  simp only [List.append_nil] at hW'
  have h0k := h0
  have hlt : ∀ x ∈ p, x.block < W.heap.size := fun x hx => by simpa using hW'.lt x hx
  obtain ⟨sq, cap, L, rfl, hL1, hok, hops⟩ := open_ops (hval 0 25 v0 rfl rfl) h0 (fun n hn => by
    have := List.all_eq_true.1 hsz' n (DataW.weights_mem_each (j := 0) rfl rfl n hn)
    simpa using this)
  refine (k_Known sq cap L hL1 (hide1 hok) W (hide1 hops) (hide1 (tb_of_laid hL))).mono fun e W' ⟨he, bel⟩ => ?_
  subst he
  exact ⟨_, rfl, _, _, _, [], _, [], hW', trodAll_mk1 (shut_bool Tryz.underlying4 _), trodAll_mk1 (Below.trod k_laidOut (by kernel_rfl) (of_decide_eq_true (by kernel_rfl)) h0k bel hlt), rfl, bel.frame _, fun h => by cases h⟩
theorem known_closed : joinedFacts Tryz.prog 8 Tryz.f8 Rows.knownSpec Rows.knownRow = true := by
  unfold joinedFacts
  rw [k_laidOut, known_inPlace, known_unfollowed, known_recurses, known_named]
  kernel_rfl
theorem known_said : Rows.KnownSaid :=
  OpenClaim.holds_of_wide 8 Tryz.f8 rfl rfl rfl rfl rfl rfl rfl ⟨rfl, rfl, rfl, rfl, rfl⟩ rfl rfl rfl rfl rfl (by kernel_rfl) Tryz.func8 known_closed
    (of_decide_eq_true (by kernel_rfl)) (by unfold Func.isWrapper; first | (rw [if_pos (by decide +kernel)]; kernel_rfl) | (rw [if_neg (by decide +kernel)]; exact ⟨rfl, rfl⟩))
    (fun os started H enc _ => known_lifted os started H enc)
#print axioms known_said
end Go.Proofs.YthfofjkfbhahoaaGreatDoor
