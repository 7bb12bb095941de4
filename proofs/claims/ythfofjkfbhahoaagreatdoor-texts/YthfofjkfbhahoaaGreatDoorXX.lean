import Derived.Test.YthfofjkfbhahoaaGreatDoorXT
section
namespace Go.Proofs.YthfofjkfbhahoaaGreatDoor
open Go.RowKit
set_option linter.unusedSimpArgs false
/-- an item's cells: the document keeps op and n beside the instruction -/
structure Dx (w : World) (b o : Nat) (l : Ln) : Prop where
  c0 : w.cell? ⟨b, o, none⟩ = some (.string ⟨l.nm.toArray⟩)
  c1 : w.cell? ⟨b, o + 1, none⟩ = some (.int .i64 l.i.op)
  c2 : w.cell? ⟨b, o + 2, none⟩ = some (.int .i64 l.i.op)
  c3 : w.cell? ⟨b, o + 3, none⟩ = some (.int .i64 l.i.rd)
  c4 : w.cell? ⟨b, o + 4, none⟩ = some (.int .i64 l.i.rs1)
  c5 : w.cell? ⟨b, o + 5, none⟩ = some (.int .i64 l.i.rs2)
  c6 : w.cell? ⟨b, o + 6, none⟩ = some (.int .i64 l.i.im)
  c7 : w.cell? ⟨b, o + 7, none⟩ = some (.int .i64 l.i.ln)
  c8 : w.cell? ⟨b, o + 8, none⟩ = some (.string ⟨l.tg.toArray⟩)
  c9 : w.cell? ⟨b, o + 9, none⟩ = some (.int .i64 l.i.ln)
def ItsAt (w : World) (p : Option Addr) (L : List Ln) : Prop := L = [] ∨ ∃ b, p = some ⟨b, 0, none⟩ ∧ ∀ j (h : j < L.length), Dx w b (j * 10) L[j]
theorem Dx.below {w w' : World} {b o n : Nat} {l : Ln} (h : Dx w b o l) (hb : Below n w w') (hn : b < n) : Dx w' b o l :=
  ⟨(hb.cell (p := ⟨b, o, none⟩) hn).trans h.c0, (hb.cell (p := ⟨b, o + 1, none⟩) hn).trans h.c1, (hb.cell (p := ⟨b, o + 2, none⟩) hn).trans h.c2, (hb.cell (p := ⟨b, o + 3, none⟩) hn).trans h.c3, (hb.cell (p := ⟨b, o + 4, none⟩) hn).trans h.c4, (hb.cell (p := ⟨b, o + 5, none⟩) hn).trans h.c5, (hb.cell (p := ⟨b, o + 6, none⟩) hn).trans h.c6, (hb.cell (p := ⟨b, o + 7, none⟩) hn).trans h.c7, (hb.cell (p := ⟨b, o + 8, none⟩) hn).trans h.c8, (hb.cell (p := ⟨b, o + 9, none⟩) hn).trans h.c9⟩
theorem ItsAt.below {w w' : World} {p : Option Addr} {n : Nat} {L : List Ln} (h : ItsAt w p L) (hb : Below n w w') (hn : ∀ a, p = some a → a.block < n) : ItsAt w' p L := by
  rcases h with h | ⟨b, rfl, h⟩
  · exact .inl h
  · exact .inr ⟨b, rfl, fun j hj => (h j hj).below hb (hn _ rfl)⟩
set_option maxHeartbeats 1000000 in
theorem u_named (p : Option Addr) (cap : Nat) (L : List Ln) (hL : L.length ≤ 5000) (s : ByteArray) (w : World) (hw : Hid (ItsAt w p L)) :
    Calls Tryz.prog 171 #[.slice p L.length cap, .string s] w fun e w' => e = .returned (.bool (decide (Byt.findN L s.data.toList < L.length))) ∧ w' = w := by
  obtain ⟨T, hT⟩ : ∃ T, T = Byt.findN L s.data.toList := ⟨_, rfl⟩
  rw [← hT]
  have HT := hide1 hT
  clear hT
  obtain ⟨R, hR⟩ : ∃ R : Bool, R = decide (T < L.length) := ⟨_, rfl⟩
  rw [← hR]
  have HR := hide1 hR
  clear hR
  go_enter Tryz.func171, Tryz.ntmps171
  go_wp2
  go_loop [5] (fun d => ∃ a : Nat, a ≤ L.length ∧ d = .int .i64 a ∧ Hid (T = a + Byt.findN (L.drop a) s.data.toList)) (fun d => L.length - (intOf d).toNat)
  case atStart => exact ⟨0, by omega, rfl, by simpa using HT⟩
  case round =>
    obtain ⟨a, ha, rfl, hh⟩ := hrel
    by_cases hlt : a < L.length
    · rcases hw.out with h0 | ⟨b, rfl, hcx⟩
      · rw [h0] at hlt; simp at hlt
      have h0 := (hcx a hlt).c0
      rw [findN_drop L _ a hlt] at hh
      clear hcx hw HT
      obtain ⟨X, hX⟩ : ∃ X : ByteArray, X = ⟨L[a].nm.toArray⟩ := ⟨_, rfl⟩
      have he := eq_str s X _ hX
      rw [← hX] at h0
      by_cases hc : s.data.toList = L[a].nm
      · rw [if_pos hc.symm] at hh
        rw [decide_eq_true hc] at he
        have he' : (X.toList == s.toList) = true := by rw [beq_iff_eq] at he ⊢; exact he.symm
        have hr : Hid (R = true) := by
          show R = true
          rw [HR.out, decide_eq_true (by rw [hh.out]; exact hlt)]
        clear hc hX he HR
        go_wp2
        go_ret
        exact ⟨by rw [hr.out]; rfl, rfl⟩
      · rw [if_neg (fun h => hc h.symm)] at hh
        rw [decide_eq_false hc] at he
        have he' : (X.toList == s.toList) = false := by rw [beq_eq_false_iff_ne] at he ⊢; exact fun h => he h.symm
        clear hc hX he
        go_wp2
        go_round
        case rel => exact ⟨a + 1, by omega, by go_num, hh⟩
        case measure => simp [intOf]; omega
    · have hr : Hid (R = false) := by
        show R = false
        rw [HR.out, decide_eq_false (by rw [hh.out]; omega)]
      clear hh HT hw HR
      go_wp2
      go_ret
      exact ⟨by rw [hr.out]; rfl, rfl⟩
set_option maxHeartbeats 1000000 in
theorem u_found (p : Option Addr) (cap : Nat) (L : List Ln) (hL : L.length ≤ 5000) (s : ByteArray) (w : World) (hw : Hid (ItsAt w p L)) :
    Calls Tryz.prog 174 #[.slice p L.length cap, .string s] w fun e w' => e = .returned (.int .i64 (if Byt.findN L s.data.toList < L.length then (Byt.findN L s.data.toList : Int) else -1)) ∧ w' = w := by
  obtain ⟨T, hT⟩ : ∃ T, T = Byt.findN L s.data.toList := ⟨_, rfl⟩
  rw [← hT]
  have HT := hide1 hT
  clear hT
  obtain ⟨R, hR⟩ : ∃ R : Int, R = if T < L.length then (T : Int) else -1 := ⟨_, rfl⟩
  rw [← hR]
  have HR := hide1 hR
  clear hR
  go_enter Tryz.func174, Tryz.ntmps174
  go_wp2
  go_loop [5] (fun d => ∃ a : Nat, a ≤ L.length ∧ d = .int .i64 a ∧ Hid (T = a + Byt.findN (L.drop a) s.data.toList)) (fun d => L.length - (intOf d).toNat)
  case atStart => exact ⟨0, by omega, rfl, by simpa using HT⟩
  case round =>
    obtain ⟨a, ha, rfl, hh⟩ := hrel
    by_cases hlt : a < L.length
    · rcases hw.out with h0 | ⟨b, rfl, hcx⟩
      · rw [h0] at hlt; simp at hlt
      have h0 := (hcx a hlt).c0
      rw [findN_drop L _ a hlt] at hh
      clear hcx hw HT
      obtain ⟨X, hX⟩ : ∃ X : ByteArray, X = ⟨L[a].nm.toArray⟩ := ⟨_, rfl⟩
      have he := eq_str s X _ hX
      rw [← hX] at h0
      by_cases hc : s.data.toList = L[a].nm
      · rw [if_pos hc.symm] at hh
        rw [decide_eq_true hc] at he
        have he' : (X.toList == s.toList) = true := by rw [beq_iff_eq] at he ⊢; exact he.symm
        have hr : Hid (R = a) := by
          show R = a
          have := hh.out
          rw [HR.out, if_pos (by omega), this]
        clear hc hX he HR
        go_wp2
        go_ret
        exact ⟨by rw [hr.out]; rfl, rfl⟩
      · rw [if_neg (fun h => hc h.symm)] at hh
        rw [decide_eq_false hc] at he
        have he' : (X.toList == s.toList) = false := by rw [beq_eq_false_iff_ne] at he ⊢; exact fun h => he h.symm
        clear hc hX he
        go_wp2
        go_round
        case rel => exact ⟨a + 1, by omega, by go_num, hh⟩
        case measure => simp [intOf]; omega
    · have hr : Hid (R = -1) := by
        show R = -1
        have := hh.out
        rw [HR.out, if_neg (by omega)]
      clear hh HT hw HR
      go_wp2
      go_ret
      exact ⟨by rw [hr.out]; rfl, rfl⟩
theorem place_succ : ∀ (L : List Ln) (k : Nat) (h : k < L.length), Byt.place L (k + 1) = Byt.place L k + L[k].i.ln
  | [], k, h => by simp at h
  | l :: L, 0, h => by cases L <;> simp [Byt.place]
  | l :: L, k + 1, h => by
    have ih := place_succ L k (by simpa using h)
    simp only [Byt.place, List.getElem_cons_succ] at ih ⊢
    rw [ih]; omega
set_option maxHeartbeats 1000000 in
theorem u_address (p : Option Addr) (cap : Nat) (L : List Ln) (hL : L.length ≤ 5000) (hd : Hid (Tidy L)) (w : World) (hw : Hid (ItsAt w p L)) : ∀ (k : Nat), k ≤ L.length →
    Calls Tryz.prog 175 #[.slice p L.length cap, .int .i64 k] w fun e w' => e = .returned (.int .i64 (Byt.place L k)) ∧ w' = w := by
  intro k
  induction k with
  | zero =>
    intro _
    have e : Byt.place L 0 = 0 := by cases L <;> rfl
    rw [e]
    go_enter Tryz.func175, Tryz.ntmps175
    go_wp2_with fail
    go_ret
    exact ⟨rfl, rfl⟩
  | succ k ih =>
    intro hk
    have hlt : k < L.length := by omega
    have hi := ih (by omega)
    rcases hw.out with h0 | ⟨b, rfl, hcx⟩
    · rw [h0] at hlt; simp at hlt
    have h9 := (hcx k hlt).c9
    have hz := hd.out L[k] (List.getElem_mem hlt)
    have hb := place_bd L k hd.out
    rw [place_succ L k hlt]
    obtain ⟨z, hz'⟩ : ∃ z, z = L[k].i.ln := ⟨_, rfl⟩
    obtain ⟨P, hP⟩ : ∃ P, P = Byt.place L k := ⟨_, rfl⟩
    rw [← hz'] at h9 hz ⊢
    rw [← hP] at hi hb ⊢
    have HI := hide1 hi
    have hk0 : (((k + 1 : Nat) : Int) == 0) = false := by simp; omega
    clear hz' hP hi hcx hw ih hd
    go_enter Tryz.func175, Tryz.ntmps175
    go_wp2_with fail
    refine HI.out.mono ?_
    rintro e w1 ⟨rfl, rfl⟩
    go_wp2
    go_ret
    exact ⟨rfl, rfl⟩
theorem segs_on (s : ByteArray) (a bg : Nat) (h : a < s.size) (hb : bg ≤ a) (hc : ¬ s[a].toNat = 10) : Byt.segs ((s.data.toList.take a).drop bg) (s.data.toList.drop a) = Byt.segs ((s.data.toList.take (a + 1)).drop bg) (s.data.toList.drop (a + 1)) := by
  rw [take_more s bg a h hb, dropb s a h]
  simp only [Byt.segs]; rw [if_neg hc]
theorem segs_cut (s : ByteArray) (a bg : Nat) (h : a < s.size) (hc : s[a].toNat = 10) : Byt.segs ((s.data.toList.take a).drop bg) (s.data.toList.drop a) = (s.data.toList.take a).drop bg :: Byt.segs ((s.data.toList.take (a + 1)).drop (a + 1)) (s.data.toList.drop (a + 1)) := by
  have h4 : (s.data.toList.take (a + 1)).drop (a + 1) = [] := List.drop_eq_nil_of_le (by rw [List.length_take]; omega)
  rw [dropb s a h, h4]
  simp only [Byt.segs]; rw [if_pos hc]
set_option maxHeartbeats 4000000 in
theorem u_lines (s : ByteArray) (hs : s.size ≤ 4096) (w : World) :
    Calls Tryz.prog 120 #[.string s] w fun e w' => ∃ v, e = .returned v ∧ v ≠ .slice none 0 0 ∧ w'.ownsRow w.heap.size 9 1 v (Byt.segs [] s.data.toList).length ((Byt.segs [] s.data.toList).map Byt.strV) ∧ Below w.heap.size w w' := by
  have hmk : ∀ w, (Instr.buildSlice 136 0 #[]).run Tryz.prog w = .ok (.slice (some ⟨w.heap.size, 0, none⟩) 0 0) (w.alloc (.cells #[] 9)) := fun _ => by kernel_rfl
  obtain ⟨i0, hi, hz0, hz1, hz2⟩ := info_parts Tryz.info9
  obtain ⟨T, hT⟩ : ∃ T, T = Byt.segs [] s.data.toList := ⟨_, rfl⟩
  rw [← hT]
  have HT : Hid (T = [] ++ Byt.segs ((s.data.toList.take 0).drop 0) (s.data.toList.drop 0)) := hT
  clear hT
  go_enter Tryz.func120, Tryz.ntmps120
  go_wp2
  go_loopw [3, 4, 5] (fun v f d wr => ∃ (a bg : Nat) (p : List (List UInt8)), a ≤ s.size ∧ bg ≤ a ∧ p.length ≤ a ∧ f = .int .i64 bg ∧ d = .int .i64 a ∧ v ≠ .slice none 0 0 ∧ wr.ownsRow w.heap.size 9 1 v p.length (p.map Byt.strV) ∧ Below w.heap.size w wr ∧ Hid (T = p ++ Byt.segs ((s.data.toList.take a).drop bg) (s.data.toList.drop a))) (fun _ _ d _ => s.size - (intOf d).toNat)
  case atStart => exact ⟨0, 0, [], by omega, by omega, by simp, rfl, rfl, by simp, World.ownsRow_made w _ 0 (Nat.le_refl _) (by unfold maxLen; omega) rfl, (Below.refl _ _).alloc (Nat.le_refl _) _, HT⟩
  case round =>
    obtain ⟨a, bg, p, ha, hba, hpl, rfl, rfl, hnn, hown, hb, hh⟩ := hrel
    have hbs := hb.size
    have hrow : ∀ j, u3.ownBlock = some j → w.heap.size ≤ j := fun j hj => (hown.lt j hj).1
    clear HT hmk
    by_cases hlt : a < s.size
    · by_cases hc : s[a].toNat = 10
      · have hc' : ((s[a].toNat : Int) == 10) = true := by simp; omega
        rw [segs_cut s a bg hlt hc] at hh
        obtain ⟨X, hX⟩ : ∃ X, X = s.extract bg a := ⟨_, rfl⟩
        have hsl : ∀ w, (Instr.slice 9 (.string s) (some (.int .i64 (bg : Int))) (some (.int .i64 (a : Int))) none).run Tryz.prog w = .ok (.string X) w := by
          intro w; rw [hX]; exact slice_mid s bg a hba ha w
        have hXl : Value.string X = Byt.strV ((s.data.toList.take a).drop bg) := by
          rw [← ext_list, ← hX]; unfold Byt.strV; rw [mk_list]
        have HX := hide1 hXl
        clear hX hXl hc
        go_wp2_with (at_builtin; refine wpList_append_own _ rfl (.tmp 17) (.tmp 22) 136 rfl w.heap.size 9 i0 (.string ⟨#[]⟩) 1 16 Tryz.underlying136 hi hz0 hz1 hz2 rfl (by decide) _ _ _ rfl (hown.alloc _) ⟨_, 0, none⟩ 1 1 [.string X] rfl rfl ?c1 ?c2 ?c3 ?c4 ?c5 ?_)
        case c1 =>
          intro j u hj
          match j, hj with
          | 0, hj => simp at hj; subst hj; simp [Addr.add]
        case c2 => intro u hu; simp at hu; subst hu; rfl
        case c3 => unfold maxLen; omega
        case c4 => omega
        case c5 => simp; omega
        intro v' w1 hown' hgrow hnil
        have hnn' : v' ≠ .slice none 0 0 := fun h => hnil h
        clear hnil
        have hrow2 : Below w.heap.size w w1 := (hb.alloc hbs _).grown hgrow (by simp; omega) hrow
        clear hown hgrow
        rw [HX.out] at hown'
        go_wp2
        go_roundw
        case rel => exact ⟨a + 1, a + 1, p ++ [(s.data.toList.take a).drop bg], by omega, by omega, by simp; omega, by go_num, by go_num, hnn', by simpa using hown', hrow2, by show T = _; rw [hh.out]; simp⟩
        case measure => simp [intOf]; omega
      · have hc' : ((s[a].toNat : Int) == 10) = false := by simp; omega
        rw [segs_on s a bg hlt hba hc] at hh
        clear hc
        go_wp2
        go_roundw
        case rel => exact ⟨a + 1, bg, p, by omega, by omega, by omega, rfl, by go_num, hnn, hown, hb, hh⟩
        case measure => simp [intOf]; omega
    · have hlt' : decide ((a : Int) < (s.size : Int)) = false := by simp; omega
      have has : a = s.size := by omega
      have hT : Hid (T = p ++ [s.data.toList.drop bg]) := by
        show T = _
        rw [hh.out, List.drop_eq_nil_of_le (i := a) (by rw [Array.length_toList, has]; exact Nat.le_refl _)]
        rw [List.take_of_length_le (by rw [Array.length_toList, has]; exact Nat.le_refl _)]; rfl
      obtain ⟨X, hX⟩ : ∃ X, X = s.extract bg s.size := ⟨_, rfl⟩
      have hsl : ∀ w, (Instr.slice 9 (.string s) (some (.int .i64 (bg : Int))) none none).run Tryz.prog w = .ok (.string X) w := by
        intro w
        rw [hX]
        rw [run_slice_string_from_if w 9 s .i64 bg Tryz.underlying9, if_pos ⟨by omega, by omega⟩]
        simp
      have hXl : Value.string X = Byt.strV (s.data.toList.drop bg) := by
        have := ext_list s bg s.size
        rw [List.take_of_length_le (by rw [Array.length_toList]; exact Nat.le_refl _)] at this
        rw [← this, ← hX]; unfold Byt.strV; rw [mk_list]
      have HX := hide1 hXl
      clear hX hXl hh
      go_wp2_with (at_builtin; refine wpList_append_own _ rfl (.tmp 26) (.tmp 30) 136 rfl w.heap.size 9 i0 (.string ⟨#[]⟩) 1 16 Tryz.underlying136 hi hz0 hz1 hz2 rfl (by decide) _ _ _ rfl (hown.alloc _) ⟨_, 0, none⟩ 1 1 [.string X] rfl rfl ?c1 ?c2 ?c3 ?c4 ?c5 ?_)
      case c1 =>
        intro j u hj
        match j, hj with
        | 0, hj => simp at hj; subst hj; simp [Addr.add]
      case c2 => intro u hu; simp at hu; subst hu; rfl
      case c3 => unfold maxLen; omega
      case c4 => omega
      case c5 => simp; omega
      intro v' w1 hown' hgrow hnil
      have hnn' : v' ≠ .slice none 0 0 := fun h => hnil h
      clear hnil
      have hrow2 : Below w.heap.size w w1 := (hb.alloc hbs _).grown hgrow (by simp; omega) hrow
      clear hown hgrow
      rw [HX.out] at hown'
      go_wp2
      go_ret
      exact ⟨_, rfl, hnn', by rw [hT.out]; simpa using hown', hrow2⟩
end Go.Proofs.YthfofjkfbhahoaaGreatDoor
end
