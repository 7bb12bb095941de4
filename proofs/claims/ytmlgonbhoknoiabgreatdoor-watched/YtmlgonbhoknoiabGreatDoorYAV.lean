import Derived.Test.YtmlgonbhoknoiabGreatDoorYAQ
import Derived.Test.YtmlgonbhoknoiabGreatDoorYAR
import Derived.Test.YtmlgonbhoknoiabGreatDoorYAS
import Derived.Test.YtmlgonbhoknoiabGreatDoorYAT
import Derived.Test.YtmlgonbhoknoiabGreatDoorYAU
set_option maxHeartbeats 8000000
set_option linter.all false
namespace Go.Proofs.YtmlgonbhoknoiabGreatDoor
open Go.RowKit Go.Proofs.Tryz
section
open Go.ChangeShapes Go.WideShapes Go.ChangeAt Go.WideMaps Go.WideElems Go.RowKit
set_option maxRecDepth 100000 in
theorem watched_lifted (os : Os) (started : os.Started) (H : Type) (enc : TypeId × Value -> H) :
 ReturnsInHanded {} Tryz.checked os 11 .any (fun w args => (Rows.watchedSpec.pre enc prog Tryz.f11 [] false w args /\ laidMetH prog laid3 w) /\ sizedMet enc prog Tryz.f11 (OpenSpec.ofChange Rows.watchedSpec) false w args)
  (Rows.watchedSpec.post enc prog Tryz.f11 false true false false) := by
 refine returnsInHanded_of_change_and (C := Tryz.checked) (X := fun w _ => laidMetH prog laid3 w) (fun _ _ _ hh h => h.of_heap hh) k_own started (by kernel_rfl) func11
  (ChangeSpec.witness_shaped (enc := enc) (C := Tryz.checked) (os := os) (X := fun w _ => laidMetH prog laid3 w) false (World.doorLaid prog 400 os) #[.slice none 0 0] 8 rfl (World.shaped_of_RefB (by kernel_rfl) (by kernel_rfl)) (by kernel_rfl) (by kernel_rfl) (by kernel_rfl) (door_met os _)) ?_
 intro W base args ds gs before hval0 hW _ hsz hL _
 have hval : ∀ (j : Nat) t v, Tryz.f11.params[j]? = some t -> args[j]? = some v -> Value.okWide prog W .any base t v := hval0
 have hW' := hW
 obtain ⟨p, q, hA0, hV, rfl, hfz, hnd⟩ := hW
 have hA : DataW.TrodAll enc prog W 0 (fun _ => true) true Tryz.f11.params.toList args.toList ds p := hA0
 have hsz' : (DataW.weightsEach prog (Tryz.f11.params.toList ++ Rows.watchedSpec.plain.varTypes prog) (ds ++ gs)).all (· <= reachBytes) = true := hsz
 rw [Tryz.params11] at hA hval hsz'
 obtain ⟨v0, d0, rfl, rfl, h0⟩ := trodAll_one hA
 obtain ⟨rfl, rfl⟩ := trodVars_none hV
 clear hA0 hval0 hsz
 simp only [List.append_nil] at hW'
 have h0k := h0
 have hlt : ∀ x ∈ p, x.block < W.heap.size := fun x hx => by simpa using hW'.lt x hx
 obtain ⟨sq, cap, L, rfl, hL1, hok, hops⟩ := open_ops (hval 0 22 v0 rfl rfl) h0 (fun n hn => by
  have := List.all_eq_true.1 hsz' n (DataW.weights_mem_each (j := 0) rfl rfl n hn)
  simpa using this)
 refine (k_Watched sq cap L hL1 (hide1 hok) W (hide1 hops) (hide1 (tb_of_laid hL))).mono fun e W' ⟨he, bel⟩ => ?_
 subst he
 exact ⟨_, rfl, _, _, _, [], _, [], hW', trodAll_mk1 (shut_bool Tryz.underlying4 _), trodAll_mk1 (Below.trod k_laidOut (by kernel_rfl) (of_decide_eq_true (by kernel_rfl)) h0k bel hlt), rfl, bel.frame _, fun h => by cases h⟩
theorem watched_closed : joinedFacts prog 11 Tryz.f11 Rows.watchedSpec Rows.watchedRow = true := by
 unfold joinedFacts
 rw [k_laidOut, watched_inPlace, watched_unfollowed, watched_recurses, watched_named]
 kernel_rfl
theorem watched_said : Rows.WatchedSaid :=
 OpenClaim.holds_of_wide 11 Tryz.f11 rfl rfl rfl rfl rfl rfl rfl ⟨rfl, rfl, rfl, rfl, rfl⟩ rfl rfl rfl rfl rfl (by kernel_rfl) func11 watched_closed
  (of_decide_eq_true (by kernel_rfl)) (by unfold Func.isWrapper; first | (rw [if_pos (by decide +kernel)]; kernel_rfl) | (rw [if_neg (by decide +kernel)]; exact ⟨rfl, rfl⟩))
  (fun os started H enc _ => watched_lifted os started H enc)
end
end Go.Proofs.YtmlgonbhoknoiabGreatDoor
