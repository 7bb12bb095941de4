import Derived.Test.YtmlgonbhoknoiaaProg
import Derived.WalkKit
import Derived.ProofKit
import Derived.OpenShut
import Derived.WalkLawsBesides
import Derived.Laws.BytesArg
import Derived.Deep.Light
import Derived.WalkSmall
namespace Go.Proofs.Ytmlgonbhoknoiaa
open Go.RowKit
set_option linter.unusedSimpArgs false

/-- the n lowest bytes of v -/
def leL (v : Int) : Nat → List Int
  | 0 => []
  | n + 1 => leL v n ++ [v / 256 ^ n % 256]

theorem Try.info5 : (Try.prog.info? 5).map (fun i => (i.zero, i.size, i.bytes)) = some (some (.int .u8 0), 1, 1) := by kernel_rfl

theorem own_string {P : Program} {w : World} {base k : Nat} {b : Value} {xs : List Int} (src dst : TypeId) {e : TypeId} (hs : P.underlying src = some (.slice e)) (he : P.underlying e = some (.int .u8)) (hd : P.underlying dst = some .string)
    (h : w.ownsRow base e 1 b k (xs.map (Value.int .u8))) : (convert src dst b).run P w = .ok (.string (strOfNums xs)) w := by
  have hl := h.1
  rcases h.2 with ⟨rfl, rfl⟩ | ⟨g, cap, cur, rfl, hb, hg, rest⟩
  · have : xs = [] := by simpa using hl
    subst this
    exact run_convert_bytes_nil w src e hs he 0 0 dst hd
  · simp at hl
    refine run_convert_bytes_arg w src e hs he g 0 k cap xs hl (fun i hi => ?_) dst hd
    have := h.cells (g := g) rfl i (.int .u8 (xs.getD i 0)) (by simp [List.getElem?_map, List.getD, List.getElem?_eq_getElem (show i < xs.length by omega)])
    have hplain : (⟨g, 0, none⟩ : Addr).add i = ⟨g, 0 + i, none⟩ := by unfold Addr.add; split <;> simp_all
    rw [hplain] at this
    exact this

set_option maxHeartbeats 2000000 in
theorem a_Le (v : Int) (n : Nat) (hn : n ≤ 8) (w : World) :
    Calls Try.prog 15 #[.int .i64 v, .int .i64 n] w fun e w' => e = .returned (.string (strOfNums (leL v n))) ∧ Below w.heap.size w w' := by
  have hmk : ∀ w, (Instr.makeSlice 27 (.int .i64 0) (.int .i64 8)).run Try.prog w = .ok (.slice (some ⟨w.heap.size, 0, none⟩) 0 8) (w.alloc (.cells #[.int .u8 0, .int .u8 0, .int .u8 0, .int .u8 0, .int .u8 0, .int .u8 0, .int .u8 0, .int .u8 0] 5)) := fun _ => by kernel_rfl
  obtain ⟨i0, hi, hz0, hz1, hz2⟩ := info_parts Try.info5
  go_enter Try.func15, Try.ntmps15
  go_wp2
  go_loopw [0, 5, 6] (fun x b i wr => ∃ k : Nat, k ≤ n ∧ i = .int .i64 k ∧ wr.ownsRow w.heap.size 5 1 b k ((leL v k).map (Value.int .u8)) ∧ Below w.heap.size w wr ∧ (∃ y, x = .int .i64 y ∧ Hid (y = v / 256 ^ k))) (fun _ _ i _ => n - (intOf i).toNat)
  case atStart => 
    refine ⟨0, Nat.zero_le _, rfl, World.ownsRow_made w _ 8 (Nat.le_refl _) (by unfold maxLen; omega) rfl, (Below.refl _ _).alloc (Nat.le_refl _) _, v, rfl, (by simp : v = v / 256 ^ 0)⟩
  case round =>
    obtain ⟨k, hk, rfl, hown, hb, y, rfl, hy⟩ := hrel
    by_cases hlt : k < n
    · have h8 : (k : Int) < 8 := by omega
      have hlt' : (k : Int) < n := by omega
      have hbs := hb.size
      have hrow : ∀ j, u5.ownBlock = some j → w.heap.size ≤ j := fun j hj => (hown.lt j hj).1
      go_wp2_with (at_builtin; refine wpList_append_own _ rfl (.tmp 17) (.tmp 20) 27 rfl w.heap.size 5 i0 (.int .u8 0) 1 1 Try.underlying27 hi hz0 hz1 hz2 rfl (by decide) _ _ _ rfl (hown.alloc _) ⟨wr.heap.size, 0, none⟩ 1 1 [.int .u8 (y % 256)] rfl rfl ?c1 ?c2 ?c3 ?c4 ?c5 ?_)
      case c1 =>
        intro j u hj
        match j, hj with
        | 0, hj => simp at hj; subst hj; simp [Addr.add]
      case c2 => intro u hu; simp at hu; subst hu; rfl
      case c3 => unfold maxLen; omega
      case c4 => omega
      case c5 => simp; omega
      intro v' w1 hown' hgrow _
      clear hown
      go_wp2
      go_roundw
      case rel =>
        refine ⟨k + 1, by omega, by go_num, ?_, ?_, y / 256, rfl, ?_⟩
        · have e : (leL v (k + 1)).map (Value.int .u8) = (leL v k).map (Value.int .u8) ++ [Value.int .u8 (y % 256)] := by
            rw [hy.out]; simp [leL]
          rw [e]; exact hown'
        · exact (hb.alloc hbs _).grown hgrow (by simp; omega) hrow
        · show y / 256 = v / 256 ^ (k + 1)
          rw [hy.out, Int.pow_succ]; exact Int.ediv_ediv_of_nonneg (Int.pow_nonneg (by decide))
      case measure => simp [intOf]; omega
    · have h8 : ¬ (k : Int) < n := by omega
      obtain rfl : k = n := by omega
      have hc := own_string 27 9 Try.underlying27 Try.underlying5 Try.underlying9 hown
      rcases hown.2 with ⟨rfl, h0⟩ | ⟨g, cap, cur, rfl, hg⟩
      · go_wp2
        go_ret
        exact ⟨rfl, hb⟩
      · go_wp2
        go_ret
        exact ⟨rfl, hb⟩
end Go.Proofs.Ytmlgonbhoknoiaa
