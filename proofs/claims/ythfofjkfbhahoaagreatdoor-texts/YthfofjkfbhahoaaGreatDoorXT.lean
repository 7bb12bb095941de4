import Derived.Test.YthfofjkfbhahoaaGreatDoorXS
import Derived.Test.YthfofjkfbhahoaaGreatDoorXR
section
namespace Go.Proofs.YthfofjkfbhahoaaGreatDoor
open Go.RowKit
set_option linter.unusedSimpArgs false
def lnL (l : Ln) : List Value := [.string ⟨l.nm.toArray⟩, .int .i64 l.i.op, .int .i64 l.i.rd, .int .i64 l.i.rs1, .int .i64 l.i.rs2, .int .i64 l.i.im, .int .i64 l.i.ln, .string ⟨l.tg.toArray⟩]
def lnR (E : List Ln) : List Value := E.flatMap lnL
theorem lnR_app (E : List Ln) (l : Ln) : lnR (E ++ [l]) = lnR E ++ lnL l := by simp [lnR]
theorem lnR_get : ∀ (E : List Ln) (j : Nat) (h : j < E.length) (f : Nat), f < 8 → (lnR E)[j * 8 + f]? = (lnL E[j])[f]?
  | [], j, h, f, hf => by simp at h
  | l :: E, 0, h, f, hf => by
    have : lnR (l :: E) = lnL l ++ lnR E := by simp [lnR]
    rw [this, Nat.zero_mul, Nat.zero_add, List.getElem?_append_left (by simp [lnL]; omega)]; rfl
  | l :: E, j + 1, h, f, hf => by
    have : lnR (l :: E) = lnL l ++ lnR E := by simp [lnR]
    have hl : (lnL l).length = 8 := rfl
    rw [this, List.getElem?_append_right (by rw [hl]; omega), hl, show (j + 1) * 8 + f - 8 = j * 8 + f by omega, lnR_get E j (by simpa using h) f hf]; rfl
theorem own_more {W W' : World} {B e size n : Nat} {v : Value} {xs : List Value} (h : W.ownsRow B e size v n xs) (hb : Below W.heap.size W W') : W'.ownsRow B e size v n xs := by
  refine ⟨h.1, ?_⟩
  rcases h.2 with h' | ⟨g, cap, cur, hv, hB, hg, h1, h2, h3, h4⟩
  · exact .inl h'
  · exact .inr ⟨g, cap, cur, hv, hB, by rw [hb.block g (Array.getElem?_eq_some_iff.1 hg).1]; exact hg, h1, h2, h3, h4⟩
/-- a row of lines that is owned: where it lies -/
theorem lns_own {w : World} {base : Nat} {v : Value} {E : List Ln} (h : w.ownsRow base 155 8 v E.length (lnR E)) (hn : v ≠ .slice none 0 0) :
    ∃ g cap, v = .slice (some ⟨g, 0, none⟩) E.length cap ∧ base ≤ g ∧ g < w.heap.size ∧ LnsAt w (some ⟨g, 0, none⟩) E := by
  rcases h.2 with ⟨hv, _⟩ | ⟨g, cap, cur, rfl, hb, hg, hrest⟩
  · exact absurd hv hn
  · refine ⟨g, cap, rfl, hb, (Array.getElem?_eq_some_iff.1 hg).1, .inr ⟨g, rfl, fun j hj => ?_⟩⟩
    have hc : ∀ f, f < 8 → w.cell? ⟨g, j * 8 + f, none⟩ = (lnL E[j])[f]? := fun f hf => by rw [h.cellAt (j * 8 + f) (by omega), lnR_get E j hj f hf]
    exact ⟨hc 0 (by omega), hc 1 (by omega), hc 2 (by omega), hc 3 (by omega), hc 4 (by omega), hc 5 (by omega), hc 6 (by omega), hc 7 (by omega)⟩
theorem tok_len : ∀ (f : Nat) (l : List UInt8), (Byt.tok f l).length ≤ l.length ∧ ∀ t ∈ Byt.tok f l, t.length ≤ l.length
  | 0, l => ⟨by simp [Byt.tok], by simp [Byt.tok]⟩
  | f + 1, [] => ⟨by simp [Byt.tok], by simp [Byt.tok]⟩
  | f + 1, c :: l => by
    simp only [Byt.tok]
    have h0 := tok_len f l
    split
    · exact ⟨by simp, by simp⟩
    · split
      · next hr =>
        have h1 := tok_len f ((c :: l).drop (Byt.rowEnd (c :: l)))
        have hre := rowEnd_le (c :: l)
        rw [List.length_drop] at h1
        refine ⟨by rw [List.length_cons]; omega, fun t ht => ?_⟩
        rcases List.mem_cons.1 ht with rfl | ht
        · rw [List.length_take]; omega
        · have := h1.2 t ht; omega
      · split
        · exact ⟨by have := h0.1; rw [List.length_cons]; omega, fun t ht => by have := h0.2 t ht; rw [List.length_cons]; omega⟩
        · refine ⟨by have := h0.1; simp only [List.length_cons]; omega, fun t ht => ?_⟩
          rcases List.mem_cons.1 ht with rfl | ht
          · simp
          · have := h0.2 t ht; rw [List.length_cons]; omega
theorem a_tokens2 (s : ByteArray) (hs : s.size ≤ 5000) (w : World) :
    Calls Tryz.prog 145 #[.string s] w fun e w' => ∃ b cap, e = .returned (.slice (some ⟨b, 0, none⟩) (Byt.tok s.size s.data.toList).length cap) ∧ (Byt.tok s.size s.data.toList).length ≤ cap ∧ b < w'.heap.size ∧ Hid (StrsAt w' b 0 (Byt.tok s.size s.data.toList)) ∧ Below w.heap.size w w' := by
  refine (a_tokens s hs w).mono ?_
  rintro e w' ⟨v, rfl, hn, hown, hb⟩
  have h2 := hown.2
  obtain ⟨b, cap, rfl, h1, h2', h3⟩ := StrsAt.of_row hown hn
  refine ⟨b, cap, rfl, ?_, h2', h3, hb⟩
  rcases h2 with ⟨hv, _⟩ | ⟨g, cap', cur, hv, _, _, hc, _⟩
  · exact absurd hv hn
  · simp only [Value.slice.injEq] at hv
    rw [hv.2.2]; exact hc
theorem take_more (s : ByteArray) (bg e : Nat) (h : e < s.size) (hb : bg ≤ e) : (s.data.toList.take (e + 1)).drop bg = (s.data.toList.take e).drop bg ++ [s[e]] := by
  have hl : e < s.data.toList.length := by rw [Array.length_toList]; exact h
  rw [List.take_add_one, List.getElem?_eq_getElem hl, List.drop_append_of_le_length (by rw [List.length_take]; omega)]
  rfl
theorem ext_list (s : ByteArray) (a b : Nat) : (s.extract a b).data.toList = (s.data.toList.take b).drop a := by
  have h := ext_str s a b
  unfold Byt.strV at h
  simp only [Value.string.injEq] at h
  rw [h, List.drop_take]
/-- the lines from a place on -/
def Byt.from (s : ByteArray) (e bg : Nat) (E : List Ln) : List Ln × Int × Nat := if e ≤ s.size then Byt.readAll E (Byt.segs ((s.data.toList.take e).drop bg) (s.data.toList.drop e)) else (E, 0, 0)
theorem from_on (s : ByteArray) (e bg : Nat) (E : List Ln) (he : e < s.size) (hb : bg ≤ e) (hc : ¬ s[e].toNat = 10) : Byt.from s e bg E = Byt.from s (e + 1) bg E := by
  unfold Byt.from
  rw [if_pos (by omega), if_pos (by omega), take_more s bg e he hb, dropb s e he]
  simp only [Byt.segs]; rw [if_neg hc]
theorem from_end (s : ByteArray) (e bg : Nat) (E : List Ln) (X : ByteArray) (hX : X.data.toList = (s.data.toList.take e).drop bg) (he : e = s.size ∨ ∃ h : e < s.size, s[e].toNat = 10) (Z : Int × Ln) (hZ : Byt.readLn (Byt.tok X.size X.data.toList) E = Z) : Byt.from s e bg E = if Z.1 = 0 then Byt.from s (e + 1) (e + 1) (E ++ [Z.2]) else ([], Z.1, E.length + 1) := by
  have hsz : X.size = X.data.toList.length := by rw [Array.length_toList]; rfl
  have hle : e ≤ s.size := by rcases he with h | ⟨h, _⟩ <;> omega
  have h1 : Byt.from s e bg E = Byt.readAll E (Byt.segs X.data.toList (s.data.toList.drop e)) := by unfold Byt.from; rw [if_pos hle, hX]
  rw [h1]
  rcases he with h | ⟨h, hc⟩
  · have h2 : ∀ E, Byt.from s (e + 1) (e + 1) E = (E, 0, 0) := fun E => by unfold Byt.from; rw [if_neg (by omega)]
    have h3 : s.data.toList.drop e = [] := List.drop_eq_nil_of_le (by rw [Array.length_toList, h]; exact Nat.le_refl _)
    rw [h2, h3]
    simp only [Byt.segs, Byt.readAll]
    rw [← hsz, hZ]
  · have h4 : (s.data.toList.take (e + 1)).drop (e + 1) = [] := List.drop_eq_nil_of_le (by rw [List.length_take]; omega)
    have h2 : ∀ E, Byt.from s (e + 1) (e + 1) E = Byt.readAll E (Byt.segs [] (s.data.toList.drop (e + 1))) := fun E => by unfold Byt.from; rw [if_pos (by omega), h4]
    rw [h2, dropb s e h]
    simp only [Byt.segs]
    rw [if_pos hc]
    simp only [Byt.readAll]
    rw [← hsz, hZ]
set_option maxHeartbeats 4000000 in
theorem a_readLines (s : ByteArray) (hs : s.size ≤ 4096) (w : World) :
    Calls Tryz.prog 101 #[.string s] w fun e w' => (∃ v, e = .returned (.tuple #[v, .int .i64 (Byt.readAll [] (Byt.segs [] s.data.toList)).2.1, .int .i64 (Byt.readAll [] (Byt.segs [] s.data.toList)).2.2]) ∧ ((Byt.readAll [] (Byt.segs [] s.data.toList)).2.1 = 0 → ∃ p cap, v = .slice p (Byt.readAll [] (Byt.segs [] s.data.toList)).1.length cap ∧ (Byt.readAll [] (Byt.segs [] s.data.toList)).1.length ≤ 5000 ∧ (∀ a, p = some a → a.block < w'.heap.size) ∧ LnsAt w' p (Byt.readAll [] (Byt.segs [] s.data.toList)).1)) ∧ Below w.heap.size w w' := by
  obtain ⟨R, hR⟩ : ∃ R, R = Byt.readAll [] (Byt.segs [] s.data.toList) := ⟨_, rfl⟩
  rw [← hR]
  have HR : Hid (R = Byt.from s 0 0 []) := by
    show R = _
    rw [hR]; unfold Byt.from; rw [if_pos (Nat.zero_le _)]; rfl
  clear hR
  have hmk : ∀ w, (Instr.makeSlice 118 (.int .i64 0) (.int .i64 0)).run Tryz.prog w = .ok (.slice (some ⟨w.heap.size, 0, none⟩) 0 0) (w.alloc (.cells #[] 155)) := fun _ => by kernel_rfl
  have hinfo : (Tryz.prog.info? 155).map (fun i => (i.zero, i.size, i.bytes)) = some (some (lnA ⟨#[]⟩ ins0 ⟨#[]⟩), 8, 80) := by kernel_rfl
  obtain ⟨i0, hi, hz0, hz1, hz2⟩ := info_parts hinfo
  go_enter Tryz.func101, Tryz.ntmps101
  go_wp2
  go_loopw [5, 6, 7] (fun v b6 e7 wr => ∃ (e bg : Nat) (E : List Ln), e ≤ s.size + 1 ∧ bg ≤ e ∧ E.length ≤ e ∧ e7 = .int .i64 e ∧ b6 = .int .i64 bg ∧ v ≠ .slice none 0 0 ∧ Hid (wr.ownsRow w.heap.size 155 8 v E.length (lnR E)) ∧ Hid (Below w.heap.size w wr) ∧ Hid (R = Byt.from s e bg E)) (fun _ _ e7 _ => s.size + 1 - (intOf e7).toNat)
  case atStart => exact ⟨0, 0, [], by omega, by omega, by simp, rfl, rfl, by simp, hide1 (World.ownsRow_made w _ 0 (Nat.le_refl _) (by unfold maxLen; omega) rfl), hide1 ((Below.refl _ _).alloc (Nat.le_refl _) _), HR⟩
  case round =>
    obtain ⟨e, bg, E, he, hbe, hEe, rfl, rfl, hnn, hown, hb, hh⟩ := hrel
    clear HR hmk
    by_cases hle : e ≤ s.size
    · by_cases hmid : ∃ h : e < s.size, ¬ s[e].toNat = 10
      · obtain ⟨hlt, hc⟩ := hmid
        have hc' : ((s[e].toNat : Int) != 10) = true := by simp; omega
        rw [from_on s e bg E hlt hbe hc] at hh
        clear hc
        go_wp2
        go_roundw
        case rel => exact ⟨e + 1, bg, E, by omega, by omega, by omega, by go_num, rfl, hnn, hown, hb, hh⟩
        case measure => simp [intOf]; omega
      · have hend : e = s.size ∨ ∃ h : e < s.size, s[e].toNat = 10 := by
          by_cases h : e < s.size
          · exact .inr ⟨h, Classical.byContradiction fun hc => hmid ⟨h, hc⟩⟩
          · exact .inl (by omega)
        clear hmid
        obtain ⟨g, cap, rfl, hg0, hg1, hln⟩ := lns_own hown.out hnn
        obtain ⟨X, hX⟩ : ∃ X, X = s.extract bg e := ⟨_, rfl⟩
        have hsl : ∀ w, (Instr.slice 9 (.string s) (some (.int .i64 (bg : Int))) (some (.int .i64 (e : Int))) none).run Tryz.prog w = .ok (.string X) w := by
          intro w; rw [hX]; exact slice_mid s bg e hbe hle w
        have hXl : X.data.toList = (s.data.toList.take e).drop bg := by rw [hX]; exact ext_list s bg e
        have hXs : X.size ≤ 4096 := by
          have : X.size = X.data.toList.length := by rw [Array.length_toList]; rfl
          rw [this, hXl, List.length_drop, List.length_take, Array.length_toList]
          have : s.data.size = s.size := rfl
          omega
        obtain ⟨K, hK⟩ : ∃ K, K = Byt.tok X.size X.data.toList := ⟨_, rfl⟩
        have htk := a_tokens2 X (by omega)
        have hKl := (tok_len X.size X.data.toList).1
        have hKs := (tok_len X.size X.data.toList).2
        have hXz : X.data.toList.length = X.size := by rw [Array.length_toList]; rfl
        rw [hXz, ← hK] at hKl hKs
        rw [← hK] at htk
        obtain ⟨Z, hZ⟩ : ∃ Z, Z = Byt.readLn K E := ⟨_, rfl⟩
        rw [from_end s e bg E X hXl hend Z (by rw [hZ, hK])] at hh
        have HTK := hide1 htk
        have HZ := hide1 hZ
        have HLN := hide1 hln
        have hKs' : Hid (Short K) := hide1 (fun t ht => by have := hKs t ht; omega)
        have hcond : Hid (e = s.size ∨ ∃ h : e < s.size, s[e].toNat = 10) := hend
        clear htk hZ hln hX hXl hXz hKs hK hend
        obtain ⟨er, l⟩ := Z
        go_upto_region 6 with fail
        go_cut [27] from 18 to 27 (fun q wx => q = .bool false ∧ wx = wr)
        case first =>
          by_cases hlt : e < s.size
          · have hc : s[e].toNat = 10 := by
              rcases hcond.out with h | ⟨h, hc⟩
              · omega
              · exact hc
            have hc' : ((s[e].toNat : Int) != 10) = false := by simp; omega
            clear hc
            go_wp2
            go_meet
            case rel => exact ⟨rfl, rfl⟩
          · have hlt' : decide ((e : Int) < (s.size : Int)) = false := by simp; omega
            go_wp2
            go_meet
            case rel => exact ⟨rfl, rfl⟩
        case rest =>
          obtain ⟨rfl, rfl⟩ := hcut
          clear hcond
          go_wp2_with fail
          refine (HTK.out _).mono ?_
          rintro e1 w1 ⟨tb, tcap, rfl, htc, htb, hst, hb1⟩
          have hrl := a_readLine tb 0 tcap K (by omega) htc (some ⟨g, 0, none⟩) cap E (by omega) w1 hst htb hKs' (hide1 (HLN.out.below hb1 (fun a h => by simp only [Option.some.injEq] at h; rw [← h]; exact hg1))) (hide1 (fun a h => by simp only [Option.some.injEq] at h; rw [← h]; exact Nat.lt_of_lt_of_le hg1 hb1.size))
          rw [← HZ.out] at hrl
          have HRL := hide1 hrl
          have HB1 := hide1 (hb.out.trans (hb1.mono hb.out.size))
          have HO1 := hide1 (own_more hown.out hb1)
          clear hrl HTK HLN hst hsl
          go_wp2_with fail
          refine HRL.out.mono ?_
          rintro e1 w2 ⟨rfl, hb2⟩
          have HB2 := hide1 (HB1.out.trans (hb2.mono HB1.out.size))
          have HO2 := hide1 (own_more HO1.out hb2)
          have hsz2 := HB2.out.size
          clear HRL HB1 HO1 hb1 hb2 hb hown
          obtain ⟨nm, i, tg⟩ := l
          simp only [lnV, lnA]
          obtain ⟨NM, hNM⟩ : ∃ x : ByteArray, x = ⟨nm.toArray⟩ := ⟨_, rfl⟩
          obtain ⟨TG, hTG⟩ : ∃ x : ByteArray, x = ⟨tg.toArray⟩ := ⟨_, rfl⟩
          rw [← hNM, ← hTG]
          have HNT := hide1 (And.intro hNM hTG)
          clear hNM hTG
          by_cases her : er = 0
          · have her' : (er != 0) = false := by simp [her]
            have hgo : Hid (R = Byt.from s (e + 1) (e + 1) (E ++ [(⟨nm, i, tg⟩ : Ln)])) := by
              show R = _
              rw [hh.out, if_pos her]
            clear hh her HZ
            have hrow : ∀ j, (Value.slice (some ⟨g, 0, none⟩) E.length cap).ownBlock = some j → w.heap.size ≤ j := fun j hj => by
              simp only [Value.ownBlock, Option.some.injEq] at hj
              omega
            have HROW := hide1 hrow
            clear hrow
            go_wp2_with (at_builtin; refine wpList_append_own _ rfl (.tmp 45) (.tmp 47) 118 rfl w.heap.size 155 i0 (lnA ⟨#[]⟩ ins0 ⟨#[]⟩) 8 80 Tryz.underlying118 hi hz0 hz1 hz2 rfl (by decide) _ _ _ rfl ((HO2.out.alloc _).alloc _) ⟨_, 0, none⟩ 1 1 [.string NM, .int .i64 i.op, .int .i64 i.rd, .int .i64 i.rs1, .int .i64 i.rs2, .int .i64 i.im, .int .i64 i.ln, .string TG] rfl rfl ?c1 ?c2 ?c3 ?c4 ?c5 ?_)
            case c1 =>
              intro j u hj
              match j, hj with
              | 0, hj => simp at hj; subst hj; simp [Addr.add]
              | 1, hj => simp at hj; subst hj; simp [Addr.add]
              | 2, hj => simp at hj; subst hj; simp [Addr.add]
              | 3, hj => simp at hj; subst hj; simp [Addr.add]
              | 4, hj => simp at hj; subst hj; simp [Addr.add]
              | 5, hj => simp at hj; subst hj; simp [Addr.add]
              | 6, hj => simp at hj; subst hj; simp [Addr.add]
              | 7, hj => simp at hj; subst hj; simp [Addr.add]
              | j + 8, hj => simp at hj
            case c2 => intro u hu; simp at hu; rcases hu with rfl | rfl | rfl | rfl | rfl | rfl | rfl | rfl <;> rfl
            case c3 => unfold maxLen; omega
            case c4 => omega
            case c5 => simp; omega
            intro v' w3 hown' hgrow hnil
            have hnn' : v' ≠ .slice none 0 0 := fun h => hnil h
            have hrow2 := hide1 (((HB2.out.alloc (by omega) _).alloc (by simp; omega) _).grown hgrow (by simp; omega) HROW.out)
            clear hnil hgrow HO2 HB2
            obtain ⟨h1, h2⟩ := HNT.out
            have hown2 : Hid (w3.ownsRow w.heap.size 155 8 v' (E ++ [(⟨nm, i, tg⟩ : Ln)]).length (lnR (E ++ [(⟨nm, i, tg⟩ : Ln)]))) := by
              show w3.ownsRow w.heap.size 155 8 v' (E ++ [(⟨nm, i, tg⟩ : Ln)]).length (lnR (E ++ [(⟨nm, i, tg⟩ : Ln)]))
              rw [lnR_app, List.length_append]
              rw [h1, h2] at hown'
              exact hown'
            clear hown' h1 h2 HNT
            go_wp2
            go_roundw
            case rel =>
              first
                | exact ⟨e + 1, e + 1, E ++ [(⟨nm, i, tg⟩ : Ln)], by omega, by omega, by simp; omega, by go_num, by go_num, hnn', hown2, hrow2, hgo⟩
                | ((repeat apply Exists.intro); exact ⟨⟨e + 1, e + 1, E ++ [(⟨nm, i, tg⟩ : Ln)], by omega, by omega, by simp; omega, by go_num, by go_num, hnn', hown2, hrow2, hgo⟩, rfl⟩)
            case measure => simp [intOf]; omega
          · have her' : (er != 0) = true := by simp [her]
            have hgo : Hid (R = ([], er, E.length + 1)) := by
              show R = _
              rw [hh.out, if_neg her]
            have hne := hide1 her
            clear hh her HZ
            go_wp2
            go_ret3
            exact ⟨⟨_, by rw [hgo.out]; rfl, fun h => absurd (by rw [hgo.out] at h; exact h) hne.out⟩, HB2.out.alloc (by omega) _⟩
    · have hT : Hid (R = (E, 0, 0)) := by
        show R = _
        rw [hh.out]; unfold Byt.from; rw [if_neg hle]
      obtain ⟨g, cap, rfl, hg0, hg1, hln⟩ := lns_own hown.out hnn
      have HLN := hide1 hln
      have hle' : decide ((e : Int) ≤ (s.size : Int)) = false := by simp; omega
      clear hh hln
      go_wp2
      go_ret3
      exact ⟨⟨_, by rw [hT.out]; rfl, fun _ => ⟨some ⟨g, 0, none⟩, cap, by rw [hT.out]; rfl, by rw [hT.out]; show E.length ≤ 5000; omega, fun a h => by simp only [Option.some.injEq] at h; rw [← h]; exact hg1, by rw [hT.out]; exact HLN.out⟩⟩, hb.out⟩
end Go.Proofs.YthfofjkfbhahoaaGreatDoor
end
section
namespace Go.Proofs.YthfofjkfbhahoaaGreatDoor
open Go.RowKit
set_option linter.unusedSimpArgs false
theorem leL_length (v : Int) : ∀ n, (leL v n).length = n
  | 0 => rfl
  | n + 1 => by simp [leL, leL_length v n]
theorem lay_step {L : List Ln} {k : Nat} {m : List UInt8} (h : k < L.length) : Byt.lay L (L.drop k) k m =
    if L[k].tg ≠ [] ∧ Byt.findN L L[k].tg = L.length then ([], 8, k + 1) else
    if (Byt.wordD (Byt.aimed L L[k] m.length)).2 = 0 then Byt.lay L (L.drop (k + 1)) (k + 1) (m ++ Byt.leB (Byt.wordD (Byt.aimed L L[k] m.length)).1 L[k].i.ln.toNat) else ([], (Byt.wordD (Byt.aimed L L[k] m.length)).2, k + 1) := by
  rw [List.drop_eq_getElem_cons h]; rfl
theorem lay_no {L : List Ln} {k : Nat} {m : List UInt8} (h : k < L.length) (h1 : L[k].tg ≠ []) (h2 : Byt.findN L L[k].tg = L.length) : Byt.lay L (L.drop k) k m = ([], 8, k + 1) := by
  rw [lay_step h, if_pos ⟨h1, h2⟩]
theorem lay_yes {L : List Ln} {k : Nat} {m : List UInt8} (h : k < L.length) (h1 : ¬ (L[k].tg ≠ [] ∧ Byt.findN L L[k].tg = L.length)) (i : Ins) (hi : Byt.aimed L L[k] m.length = i) : Byt.lay L (L.drop k) k m = if (Byt.wordD i).2 = 0 then Byt.lay L (L.drop (k + 1)) (k + 1) (m ++ Byt.leB (Byt.wordD i).1 L[k].i.ln.toNat) else ([], (Byt.wordD i).2, k + 1) := by
  rw [lay_step h, if_neg h1, hi]
theorem strNums_size (l : List Int) : (strOfNums l).size = l.length := by
  unfold strOfNums; simp [ByteArray.size]
theorem app_list (X B : ByteArray) : (X ++ B).data.toList = X.data.toList ++ B.data.toList := by
  rw [ByteArray.data_append, Array.toList_append]
theorem place_bd : ∀ (L : List Ln) (n : Nat), Tidy L → 0 ≤ Byt.place L n ∧ Byt.place L n ≤ 4 * L.length
  | [], n, _ => by cases n <;> simp [Byt.place]
  | l :: L, 0, _ => by simp [Byt.place]; omega
  | l :: L, n + 1, h => by
    have ih := place_bd L n (fun x hx => h x (List.mem_cons_of_mem _ hx))
    have := h l (by simp)
    simp only [Byt.place, List.length_cons]; omega
set_option maxHeartbeats 4000000 in
theorem a_layLines (p : Option Addr) (cap : Nat) (L : List Ln) (hL : L.length ≤ 5000) (hd : Hid (Tidy L)) (w : World) (hw : Hid (LnsAt w p L)) (hp : Hid (∀ a, p = some a → a.block < w.heap.size)) :
    Calls Tryz.prog 102 #[.slice p L.length cap] w fun e w' => e = .returned (.tuple #[Byt.strV (Byt.lay L L 0 []).1, .int .i64 (Byt.lay L L 0 []).2.1, .int .i64 (Byt.lay L L 0 []).2.2]) ∧ Below w.heap.size w w' := by
  obtain ⟨R, hR⟩ : ∃ R, R = Byt.lay L L 0 [] := ⟨_, rfl⟩
  rw [← hR]
  have HR : Hid (R = Byt.lay L (L.drop 0) 0 (⟨#[]⟩ : ByteArray).data.toList) := hR
  clear hR
  go_enter Tryz.func102, Tryz.ntmps102
  go_wp2
  go_loopw [5, 6] (fun v k6 wr => ∃ (k : Nat) (X : ByteArray), k ≤ L.length ∧ X.size ≤ 4 * k ∧ v = .string X ∧ k6 = .int .i64 k ∧ Hid (Below w.heap.size w wr) ∧ Hid (R = Byt.lay L (L.drop k) k X.data.toList)) (fun _ k6 _ => L.length - (intOf k6).toNat)
  case atStart => exact ⟨0, ⟨#[]⟩, by omega, by decide, rfl, rfl, hide1 (Below.refl _ _), HR⟩
  case round =>
    obtain ⟨k, X, hk, hXs, rfl, rfl, hb, hh⟩ := hrel
    clear HR
    by_cases hlt : k < L.length
    · have hln := hide1 (hw.out.below hb.out hp.out)
      rcases hln.out with h0 | ⟨b, rfl, hcx⟩
      · rw [h0] at hlt; simp at hlt
      have hcx := hcx k hlt
      have hbl : b < wr.heap.size := Nat.lt_of_lt_of_le (hp.out _ rfl) hb.out.size
      have hz := hd.out L[k] (List.getElem_mem hlt)
      obtain ⟨z, hz', hz4⟩ : ∃ z : Nat, L[k].i.ln = z ∧ z ≤ 4 := ⟨L[k].i.ln.toNat, by omega, by omega⟩
      obtain ⟨l, hl⟩ : ∃ l, l = L[k] := ⟨_, rfl⟩
      rw [← hl] at hcx hz'
      have HL := hide1 hl
      clear hz hl
      obtain ⟨nm, i, tg⟩ := l
      have c0 := hcx.c0
      have c1 := hcx.c1
      have c2 := hcx.c2
      have c3 := hcx.c3
      have c4 := hcx.c4
      have c5 := hcx.c5
      have c6 := hcx.c6
      have c7 := hcx.c7
      simp only at c0 c1 c2 c3 c4 c5 c6 c7 hz'
      rw [hz'] at c6
      have HZ := hide1 hz'
      obtain ⟨NM, hNM⟩ : ∃ x : ByteArray, x = ⟨nm.toArray⟩ := ⟨_, rfl⟩
      obtain ⟨TG, hTG⟩ : ∃ x : ByteArray, x = ⟨tg.toArray⟩ := ⟨_, rfl⟩
      rw [← hNM] at c0
      rw [← hTG] at c7
      have hTl : TG.data.toList = tg := by rw [hTG]
      have q0 : (TG.toList == []) = decide (TG.data.toList = []) := eq_lit TG []
      rw [hTl] at q0
      have HTG := hide1 hTl
      clear hNM hTG hTl hz' hcx
      by_cases htg : tg = []
      · rw [decide_eq_true htg] at q0
        have hstep : Hid (R = if (Byt.wordD i).2 = 0 then Byt.lay L (L.drop (k + 1)) (k + 1) (X.data.toList ++ Byt.leB (Byt.wordD i).1 i.ln.toNat) else ([], (Byt.wordD i).2, k + 1)) := by
          show R = _
          rw [hh.out, lay_yes hlt (by rw [← HL.out]; exact fun h => h.1 htg) i (by unfold Byt.aimed; rw [← HL.out, if_pos htg]), ← HL.out]
        clear hh htg
        obtain ⟨V, hV⟩ : ∃ V, V = Byt.wordD ⟨i.op, i.rd, i.rs1, i.rs2, i.im, z⟩ := ⟨_, rfl⟩
        have hgo : Hid (R = if V.2 = 0 then Byt.lay L (L.drop (k + 1)) (k + 1) (X.data.toList ++ Byt.leB V.1 z) else ([], V.2, k + 1)) := by
          show R = _
          have h := hstep.out
          have hI : i = ⟨i.op, i.rd, i.rs1, i.rs2, i.im, z⟩ := by rw [← HZ.out]
          rw [hI, ← hV] at h
          first | exact h | (rw [HZ.out] at h; exact h)
        have hnb := Bx.new wr NM ⟨i.op, i.rd, i.rs1, i.rs2, i.im, z⟩ TG
        have hww : Below w.heap.size w (wr.alloc (lnC NM ⟨i.op, i.rd, i.rs1, i.rs2, i.im, z⟩ TG)) := hb.out.alloc hb.out.size _
        have hwo := a_wordOf ⟨i.op, i.rd, i.rs1, i.rs2, i.im, z⟩ (wr.alloc (lnC NM ⟨i.op, i.rd, i.rs1, i.rs2, i.im, z⟩ TG))
        rw [← hV] at hwo
        have HWO := hide1 (hwo.mono fun e w1 h => (⟨h.1, hide1 (hww.trans (h.2.mono hww.size)), (hnb.more h.2 hnb.lt).c6⟩ : _ ∧ Hid (Below w.heap.size w w1) ∧ w1.cell? ⟨wr.heap.size, 6, none⟩ = some (.int .i64 z)))
        unfold insV lnC at HWO
        clear hwo hww hnb hV hstep
        go_wp2_with fail
        refine HWO.out.mono ?_
        rintro e w1 ⟨rfl, hb1, d6⟩
        clear HWO
        obtain ⟨v, er⟩ := V
        by_cases her : er = 0
        · have her' : (er != 0) = false := by simp [her]
          obtain ⟨B, hB⟩ : ∃ B, B = strOfNums (leL v z) := ⟨_, rfl⟩
          have hBs : B.size = z := by rw [hB, strNums_size, leL_length]
          obtain ⟨C, hC⟩ : ∃ C, C = X ++ B := ⟨_, rfl⟩
          have hadd : ∀ w, (Op.stringOp .add X B).run Tryz.prog w = .ok (.string C) w := fun w => add_str (a := X) (b := B) (c := C) hC.symm (by omega) w
          have hCs : C.size ≤ 4 * (k + 1) := by rw [hC, ByteArray.size_append]; omega
          have hgo2 : Hid (R = Byt.lay L (L.drop (k + 1)) (k + 1) C.data.toList) := by
            show R = _
            have h := hgo.out
            rw [if_pos her] at h
            rw [h, hC, app_list, hB]; rfl
          have HBB := hide1 hB
          clear hgo hB hC her hBs
          go_wp2_with (go_at_call 150; refine (a_Le v z (by omega) _).mono ?_; rintro e w2 ⟨rfl, hb2⟩; rw [← HBB.out])
          go_roundw
          case rel =>
            first
              | exact ⟨k + 1, C, by omega, hCs, rfl, by go_num, hide1 (hb1.out.trans (hb2.mono hb1.out.size)), hgo2⟩
              | ((repeat apply Exists.intro); exact ⟨⟨k + 1, C, by omega, hCs, rfl, by go_num, hide1 (hb1.out.trans (hb2.mono hb1.out.size)), hgo2⟩, rfl⟩)
          case measure => simp [intOf]; omega
        · have her' : (er != 0) = true := by simp [her]
          have hgo2 : Hid (R = ([], er, k + 1)) := by
            show R = _
            have h := hgo.out
            rw [if_neg her] at h
            exact h
          clear hgo her
          go_wp2
          go_ret3
          exact ⟨by rw [hgo2.out]; rfl, hb1.out⟩
      · rw [decide_eq_false htg] at q0
        have hww : Below w.heap.size w (wr.alloc (lnC NM ⟨i.op, i.rd, i.rs1, i.rs2, i.im, z⟩ TG)) := hb.out.alloc hb.out.size _
        have hfn := a_findName (some ⟨b, 0, none⟩) cap L hL TG _ (hide1 (hw.out.below hww hp.out))
        have hpl := fun n hn => a_placeOf (some ⟨b, 0, none⟩) cap L hL hd n hn _ (hide1 (hw.out.below hww hp.out))
        rw [HTG.out] at hfn
        obtain ⟨F, hF⟩ : ∃ F, F = Byt.findN L tg := ⟨_, rfl⟩
        have hFl : F ≤ L.length := by rw [hF]; exact Byt.findN_le L tg
        rw [← hF] at hfn
        have HF := hide1 hF
        have HFN := hide1 hfn
        have hpl' := hpl F (by omega)
        have hPb := place_bd L F hd.out
        obtain ⟨P, hP⟩ : ∃ P, P = Byt.place L F := ⟨_, rfl⟩
        rw [← hP] at hpl' hPb
        have HP := hide1 hP
        have HPL := hide1 hpl'
        unfold lnC at HFN HPL
        clear hfn hpl hpl' hww hF hP
        by_cases hfe : F = L.length
        · have hno : Hid (R = ([], 8, k + 1)) := by
            show R = _
            rw [hh.out]
            exact lay_no hlt (by rw [← HL.out]; exact htg) (by rw [← HL.out]; show Byt.findN L tg = L.length; rw [← HF.out]; exact hfe)
          have e1 : ((F : Int) == (L.length : Int)) = true := by simp; omega
          have e2 : (F == L.length) = true := by simp; omega
          clear hh htg hfe
          go_wp2_with (go_at_call 147; refine HFN.out.mono ?_; rintro e w1 ⟨rfl, rfl⟩)
          go_ret3
          exact ⟨by rw [hno.out]; rfl, hb.out.alloc hb.out.size _⟩
        · have hstep : Hid (R = if (Byt.wordD ⟨i.op, i.rd, i.rs1, i.rs2, P - X.size, i.ln⟩).2 = 0 then Byt.lay L (L.drop (k + 1)) (k + 1) (X.data.toList ++ Byt.leB (Byt.wordD ⟨i.op, i.rd, i.rs1, i.rs2, P - X.size, i.ln⟩).1 i.ln.toNat) else ([], (Byt.wordD ⟨i.op, i.rd, i.rs1, i.rs2, P - X.size, i.ln⟩).2, k + 1)) := by
            show R = _
            rw [hh.out, lay_yes hlt (by rw [← HL.out]; intro h; exact hfe (by rw [HF.out]; exact h.2)) ⟨i.op, i.rd, i.rs1, i.rs2, P - X.size, i.ln⟩ (by
              unfold Byt.aimed
              rw [← HL.out, if_neg htg]
              show ({ i with im := Byt.place L (Byt.findN L tg) - _ } : Ins) = _
              rw [← HF.out, ← HP.out, Array.length_toList]; rfl), ← HL.out]
          have e1 : ((F : Int) == (L.length : Int)) = false := by simp; omega
          have e2 : (F == L.length) = false := by simp; omega
          clear hh htg hfe
          obtain ⟨V, hV⟩ : ∃ V, V = Byt.wordD ⟨i.op, i.rd, i.rs1, i.rs2, P - X.size, z⟩ := ⟨_, rfl⟩
          have hgo : Hid (R = if V.2 = 0 then Byt.lay L (L.drop (k + 1)) (k + 1) (X.data.toList ++ Byt.leB V.1 z) else ([], V.2, k + 1)) := by
            show R = _
            have h := hstep.out
            have hI : (⟨i.op, i.rd, i.rs1, i.rs2, P - X.size, i.ln⟩ : Ins) = ⟨i.op, i.rd, i.rs1, i.rs2, P - X.size, z⟩ := by rw [← HZ.out]
            rw [hI, ← hV] at h
            first | exact h | (rw [HZ.out] at h; exact h)
          have hnb := Bx.new wr NM ⟨i.op, i.rd, i.rs1, i.rs2, P - X.size, z⟩ TG
          have hww : Below w.heap.size w (wr.alloc (lnC NM ⟨i.op, i.rd, i.rs1, i.rs2, P - X.size, z⟩ TG)) := hb.out.alloc hb.out.size _
          have hwo := a_wordOf ⟨i.op, i.rd, i.rs1, i.rs2, P - X.size, z⟩ (wr.alloc (lnC NM ⟨i.op, i.rd, i.rs1, i.rs2, P - X.size, z⟩ TG))
          rw [← hV] at hwo
          have HWO := hide1 (hwo.mono fun e w1 h => (⟨h.1, hide1 (hww.trans (h.2.mono hww.size)), (hnb.more h.2 hnb.lt).c6⟩ : _ ∧ Hid (Below w.heap.size w w1) ∧ w1.cell? ⟨wr.heap.size, 6, none⟩ = some (.int .i64 z)))
          unfold insV lnC at HWO
          clear hwo hww hnb hV hstep
          go_upto_region 7 with fail
          go_wp2_with (first | (go_at_call 147; refine HFN.out.mono ?_; rintro e w1 ⟨rfl, rfl⟩) | (go_at_call 148; refine HPL.out.mono ?_; rintro e w1 ⟨rfl, rfl⟩) | (go_at_call 149; fail))
          refine HWO.out.mono ?_
          rintro e w1 ⟨rfl, hb1, d6⟩
          clear HWO
          obtain ⟨v, er⟩ := V
          by_cases her : er = 0
          · have her' : (er != 0) = false := by simp [her]
            obtain ⟨B, hB⟩ : ∃ B, B = strOfNums (leL v z) := ⟨_, rfl⟩
            have hBs : B.size = z := by rw [hB, strNums_size, leL_length]
            obtain ⟨C, hC⟩ : ∃ C, C = X ++ B := ⟨_, rfl⟩
            have hadd : ∀ w, (Op.stringOp .add X B).run Tryz.prog w = .ok (.string C) w := fun w => add_str (a := X) (b := B) (c := C) hC.symm (by omega) w
            have hCs : C.size ≤ 4 * (k + 1) := by rw [hC, ByteArray.size_append]; omega
            have hgo2 : Hid (R = Byt.lay L (L.drop (k + 1)) (k + 1) C.data.toList) := by
              show R = _
              have h := hgo.out
              rw [if_pos her] at h
              rw [h, hC, app_list, hB]; rfl
            have HBB := hide1 hB
            clear hgo hB hC her hBs
            go_wp2_with (go_at_call 150; refine (a_Le v z (by omega) _).mono ?_; rintro e w2 ⟨rfl, hb2⟩; rw [← HBB.out])
            go_roundw
            case rel =>
              first
                | exact ⟨k + 1, C, by omega, hCs, rfl, by go_num, hide1 (hb1.out.trans (hb2.mono hb1.out.size)), hgo2⟩
                | ((repeat apply Exists.intro); exact ⟨⟨k + 1, C, by omega, hCs, rfl, by go_num, hide1 (hb1.out.trans (hb2.mono hb1.out.size)), hgo2⟩, rfl⟩)
            case measure => simp [intOf]; omega
          · have her' : (er != 0) = true := by simp [her]
            have hgo2 : Hid (R = ([], er, k + 1)) := by
              show R = _
              have h := hgo.out
              rw [if_neg her] at h
              exact h
            clear hgo her
            go_wp2
            go_ret3
            exact ⟨by rw [hgo2.out]; rfl, hb1.out⟩
    · have hT : Hid (R = (X.data.toList, 0, 0)) := by
        show R = _
        rw [hh.out, List.drop_eq_nil_of_le (by omega)]; rfl
      have hlt' : decide ((k : Int) < (L.length : Int)) = false := by simp; omega
      clear hh
      go_wp2
      go_ret3
      exact ⟨by rw [hT.out]; unfold Byt.strV; simp only [mk_list]; rfl, hb.out⟩
end Go.Proofs.YthfofjkfbhahoaaGreatDoor
end
section
namespace Go.Proofs.YthfofjkfbhahoaaGreatDoor
open Go.RowKit
set_option linter.unusedSimpArgs false
theorem opd_ln {i j : Ins} {g h : List UInt8} {c : Nat} {T : List (List UInt8)} (e : Byt.opdP i g c T = some (j, h)) : j.ln = i.ln ∧ j.op = i.op := by
  unfold Byt.opdP at e
  split at e
  · cases hr : Byt.opdR i c (T[0]?.getD []) with
    | none => rw [hr] at e; simp at e
    | some x =>
      rw [hr] at e
      simp only [Option.map_some, Option.some.injEq, Prod.mk.injEq] at e
      rw [← e.1]
      unfold Byt.opdR at hr
      split at hr
      · simp at hr
      · simp only [Option.some.injEq] at hr
        rw [← hr]
        split
        · exact ⟨rfl, rfl⟩
        · split <;> exact ⟨rfl, rfl⟩
  · split at e
    · cases hr : Byt.opdM i (T[0]?.getD []) (T[1]?.getD []) (T[2]?.getD []) (T[3]?.getD []) with
      | none => rw [hr] at e; simp at e
      | some x =>
        rw [hr] at e
        simp only [Option.map_some, Option.some.injEq, Prod.mk.injEq] at e
        rw [← e.1]
        unfold Byt.opdM at hr
        split at hr
        · split at hr
          · simp at hr
          · simp only [Option.some.injEq] at hr
            rw [← hr]; exact ⟨rfl, rfl⟩
        · simp at hr
    · split at e
      · simp only [Option.some.injEq, Prod.mk.injEq] at e
        rw [← e.1]; exact ⟨rfl, rfl⟩
      · cases hr : Byt.opdN i c (T[0]?.getD []) with
        | none => rw [hr] at e; simp at e
        | some x =>
          rw [hr] at e
          simp only [Option.map_some, Option.some.injEq, Prod.mk.injEq] at e
          rw [← e.1]
          unfold Byt.opdN at hr
          split at hr
          · simp only [Option.some.injEq] at hr
            rw [← hr]
            split <;> exact ⟨rfl, rfl⟩
          · simp at hr
theorem ops_ln : ∀ (cs : List Nat) (m : Bool) (i : Ins) (g : List UInt8) (T : List (List UInt8)) (j : Ins) (h : List UInt8), Byt.opsP cs m i g T = some (j, h) → j.ln = i.ln ∧ j.op = i.op
  | [], m, i, g, T, j, h, e => by
    simp only [Byt.opsP] at e
    split at e
    · simp only [Option.some.injEq, Prod.mk.injEq] at e; rw [← e.1]; exact ⟨rfl, rfl⟩
    · simp at e
  | c :: cs, m, i, g, T, j, h, e => by
    simp only [Byt.opsP] at e
    split at e
    · simp at e
    · split at e
      · simp at e
      · next x y he =>
        have h1 := opd_ln he
        have h2 := ops_ln cs true x y _ j h e
        exact ⟨h2.1.trans h1.1, h2.2.trans h1.2⟩
theorem wrdFrom_sz (t : List UInt8) : ∀ f op, (Byt.wrdFrom t f op).2 = 0 ∨ (Byt.wrdFrom t f op).2 = 2 ∨ (Byt.wrdFrom t f op).2 = 4
  | 0, op => .inl rfl
  | f + 1, op => by
    have ih := wrdFrom_sz t f (op + 1)
    unfold Byt.wrdFrom
    split
    · right; right; rfl
    · split
      · right; left; rfl
      · exact ih
theorem wrd_sz (t : List UInt8) : (Byt.wrd t).2 = 0 ∨ (Byt.wrd t).2 = 2 ∨ (Byt.wrd t).2 = 4 := by
  unfold Byt.wrd
  split
  · right; right; rfl
  · split
    · right; left; rfl
    · exact wrdFrom_sz t 70 1
theorem readR_tidy (nm : List UInt8) (T : List (List UInt8)) : (Byt.readR nm T).2.i.ln = 0 ∨ (Byt.readR nm T).2.i.ln = 2 ∨ (Byt.readR nm T).2.i.ln = 4 := by
  cases T with
  | nil => left; rfl
  | cons t LT =>
    by_cases hz : (Byt.wrd t).2 = 0
    · rw [readR_no nm t LT hz]; left; rfl
    · cases ho : Byt.opsP (Byt.shp (Byt.wrd t).1) false ⟨(Byt.wrd t).1, 0, 0, 0, 0, (Byt.wrd t).2⟩ [] LT with
      | none => rw [readR_bad nm t LT hz ho]; left; rfl
      | some r =>
        obtain ⟨i, g⟩ := r
        rw [readR_yes nm t LT hz ho]
        have h1 := (ops_ln _ _ _ _ _ _ _ ho).1
        have h2 := wrd_sz t
        simp only at h1 ⊢
        omega
theorem readLn_tidy (T : List (List UInt8)) (E : List Ln) : (Byt.readLn T E).2.i.ln = 0 ∨ (Byt.readLn T E).2.i.ln = 2 ∨ (Byt.readLn T E).2.i.ln = 4 := by
  unfold Byt.readLn
  split
  · split
    · split
      · left; rfl
      · exact readR_tidy _ _
    · left; rfl
  · exact readR_tidy _ _
theorem readAll_tidy : ∀ (ts : List (List UInt8)) (E : List Ln), Tidy E → Tidy (Byt.readAll E ts).1
  | [], E, h => h
  | t :: ts, E, h => by
    simp only [Byt.readAll]
    split
    · refine readAll_tidy ts _ (fun l hl => ?_)
      rcases List.mem_append.1 hl with hl | hl
      · exact h l hl
      · rw [List.mem_singleton] at hl; rw [hl]; exact readLn_tidy _ _
    · intro l hl; simp at hl
set_option maxHeartbeats 2000000 in
theorem a_Assemble (s : ByteArray) (w : World) :
    Calls Tryz.prog 63 #[.string s] w fun e w' => e = .returned (.tuple #[Byt.strV (Byt.asmD s.data.toList).1, .int .i64 (Byt.asmD s.data.toList).2.1, .int .i64 (Byt.asmD s.data.toList).2.2]) ∧ Below w.heap.size w w' := by
  obtain ⟨R, hR⟩ : ∃ R, R = Byt.asmD s.data.toList := ⟨_, rfl⟩
  rw [← hR]
  unfold Byt.asmD at hR
  rw [show s.data.toList.length = s.size by rw [Array.length_toList]; rfl] at hR
  by_cases h1 : 4096 < s.size
  · rw [if_pos h1] at hR
    have h1' : decide (4096 < (s.size : Int)) = true := by simp; omega
    have HR := hide1 hR
    clear hR
    go_enter Tryz.func63, Tryz.ntmps63
    go_wp2
    go_ret3
    exact ⟨by rw [HR.out]; rfl, Below.refl _ _⟩
  rw [if_neg h1] at hR
  have h1' : decide (4096 < (s.size : Int)) = false := by simp; omega
  have hcl := a_countLines s (by omega) w
  obtain ⟨C, hC⟩ : ∃ C, C = 1 + Byt.nls s.data.toList := ⟨_, rfl⟩
  rw [← hC] at hcl hR
  have HCL := hide1 hcl
  clear hcl hC
  by_cases h2 : 256 < C
  · rw [if_pos h2] at hR
    have h2' : decide (256 < (C : Int)) = true := by simp; omega
    have HR := hide1 hR
    clear hR
    go_enter Tryz.func63, Tryz.ntmps63
    go_wp2_with (go_at_call 100; refine HCL.out.mono ?_; rintro e w1 ⟨rfl, rfl⟩)
    go_ret3
    exact ⟨by rw [HR.out]; rfl, Below.refl _ _⟩
  rw [if_neg h2] at hR
  have h2' : decide (256 < (C : Int)) = false := by simp; omega
  have hrl := a_readLines s (by omega) w
  have htd := readAll_tidy (Byt.segs [] s.data.toList) [] (fun l hl => by simp at hl)
  obtain ⟨Q, hQ⟩ : ∃ Q, Q = Byt.readAll [] (Byt.segs [] s.data.toList) := ⟨_, rfl⟩
  rw [← hQ] at hrl hR htd
  have HRL := hide1 hrl
  have HTD := hide1 htd
  clear hrl hQ htd
  obtain ⟨L, er, bad⟩ := Q
  by_cases h3 : er = 0
  · have h3' : (er != 0) = false := by simp [h3]
    have HR : Hid (R = Byt.lay L L 0 []) := by
      show R = _
      rw [hR]; simp only; rw [if_pos h3]
    have H3 := hide1 h3
    clear hR
    go_enter Tryz.func63, Tryz.ntmps63
    go_wp2_with fail
    refine HCL.out.mono ?_
    rintro e w1 ⟨rfl, rfl⟩
    go_wp2_with fail
    refine HRL.out.mono ?_
    rintro e w1 ⟨⟨v, rfl, hv⟩, hb⟩
    obtain ⟨p, cap, rfl, hL, hp, hln⟩ := hv H3.out
    have hlay := a_layLines p cap L hL (hide1 HTD.out) w1 (hide1 hln) (hide1 hp)
    rw [← HR.out] at hlay
    have HLAY := hide1 hlay
    obtain ⟨X, hX⟩ : ∃ X, X = Byt.strV R.1 := ⟨_, rfl⟩
    rw [← hX] at HLAY
    have HX := hide1 hX
    clear hlay hv hX
    go_wp2_with fail
    refine HLAY.out.mono ?_
    rintro e w2 ⟨rfl, hb2⟩
    go_wp2
    go_ret3
    exact ⟨by rw [← HX.out]; rfl, hb.trans (hb2.mono hb.size)⟩
  · have h3' : (er != 0) = true := by simp [h3]
    have HR : Hid (R = ([], er, bad)) := by
      show R = _
      rw [hR]; simp only; rw [if_neg h3]
    clear hR
    go_enter Tryz.func63, Tryz.ntmps63
    go_wp2_with fail
    refine HCL.out.mono ?_
    rintro e w1 ⟨rfl, rfl⟩
    go_wp2_with fail
    refine HRL.out.mono ?_
    rintro e w1 ⟨⟨v, rfl, hv⟩, hb⟩
    clear hv
    go_wp2
    go_ret3
    exact ⟨by rw [HR.out]; rfl, hb⟩
end Go.Proofs.YthfofjkfbhahoaaGreatDoor
end
