import Derived.Test.YtmlgonbhoknoiaaGreatDoorSAP
set_option maxHeartbeats 8000000
set_option linter.all false
namespace Go.Proofs.YtmlgonbhoknoiaaGreatDoor
open Go.RowKit Go.Proofs.Tryz
def lnL (l : Ln) : List Value := [.string ⟨l.nm.toArray⟩, .int .i64 l.i.op, .int .i64 l.i.rd, .int .i64 l.i.rs1, .int .i64 l.i.rs2, .int .i64 l.i.im, .int .i64 l.i.ln, .string ⟨l.tg.toArray⟩]
def lnR (E : List Ln) : List Value := E.flatMap lnL
theorem lnR_app (E : List Ln) (l : Ln) : lnR (E ++ [l]) = lnR E ++ lnL l := by simp [lnR]
theorem lnR_get : ∀ (E : List Ln) (j : Nat) (h : j < E.length) (f : Nat), f < 8 -> (lnR E)[j * 8 + f]? = (lnL E[j])[f]?
 | [], j, h, f, hf => by simp at h
 | l :: E, 0, h, f, hf => by
  have : lnR (l :: E) = lnL l ++ lnR E := by simp [lnR]
  rw [this, Nat.zero_mul, Nat.zero_add, List.getElem?_append_left (by simp [lnL]; omega)]; rfl
 | l :: E, j + 1, h, f, hf => by
  have : lnR (l :: E) = lnL l ++ lnR E := by simp [lnR]
  have hl : (lnL l).length = 8 := rfl
  rw [this, List.getElem?_append_right (by rw [hl]; omega), hl, show (j + 1) * 8 + f - 8 = j * 8 + f by omega, lnR_get E j (by simpa using h) f hf]; rfl
theorem own_more {W W' : World} {B e size n : Nat} {v : Value} {xs : List Value} (h : W.ownsRow B e size v n xs) (hb : Below W.heap.size W W') : W'.ownsRow B e size v n xs := by
 refine ⟨h.1, ?_⟩
 rcases h.2 with h' | ⟨g, cap, cur, hv, hB, hg, h1, h2, h3, h4⟩
 . exact .inl h'
 . exact .inr ⟨g, cap, cur, hv, hB, by rw [hb.block g (Array.getElem?_eq_some_iff.1 hg).1]; exact hg, h1, h2, h3, h4⟩
theorem lns_own {w : World} {base : Nat} {v : Value} {E : List Ln} (h : w.ownsRow base 185 8 v E.length (lnR E)) (hn : v ≠ .slice none 0 0) :
 ∃ g cap, v = .slice (some ⟨g, 0, none⟩) E.length cap /\ base <= g /\ g < w.heap.size /\ LnsAt w (some ⟨g, 0, none⟩) E := by
 rcases h.2 with ⟨hv, _⟩ | ⟨g, cap, cur, rfl, hb, hg, hrest⟩
 . exact absurd hv hn
 . refine ⟨g, cap, rfl, hb, (Array.getElem?_eq_some_iff.1 hg).1, .inr ⟨g, rfl, fun j hj => ?_⟩⟩
   have hc : ∀ f, f < 8 -> w.cell? ⟨g, j * 8 + f, none⟩ = (lnL E[j])[f]? := fun f hf => by rw [h.cellAt (j * 8 + f) (by omega), lnR_get E j hj f hf]
   exact ⟨hc 0 (by omega), hc 1 (by omega), hc 2 (by omega), hc 3 (by omega), hc 4 (by omega), hc 5 (by omega), hc 6 (by omega), hc 7 (by omega)⟩
theorem tok_len : ∀ (f : Nat) (l : List UInt8), (Byt.tok f l).length <= l.length /\ ∀ t ∈ Byt.tok f l, t.length <= l.length
 | 0, l => ⟨by simp [Byt.tok], by simp [Byt.tok]⟩
 | f + 1, [] => ⟨by simp [Byt.tok], by simp [Byt.tok]⟩
 | f + 1, c :: l => by
  simp only [Byt.tok]
  have h0 := tok_len f l
  split
  . exact ⟨by simp, by simp⟩
  . split
    . next hr =>
      have h1 := tok_len f ((c :: l).drop (Byt.rowEnd (c :: l)))
      have hre := rowEnd_le (c :: l)
      rw [List.length_drop] at h1
      refine ⟨by rw [List.length_cons]; omega, fun t ht => ?_⟩
      rcases List.mem_cons.1 ht with rfl | ht
      . rw [List.length_take]; omega
      . have := h1.2 t ht; omega
    . split
      . exact ⟨by have := h0.1; rw [List.length_cons]; omega, fun t ht => by have := h0.2 t ht; rw [List.length_cons]; omega⟩
      . refine ⟨by have := h0.1; simp only [List.length_cons]; omega, fun t ht => ?_⟩
        rcases List.mem_cons.1 ht with rfl | ht
        . simp
        . have := h0.2 t ht; rw [List.length_cons]; omega
theorem a_tokens2 (s : ByteArray) (hs : s.size <= 5000) (w : World) :
 Calls prog 181 #[.string s] w fun e w' => ∃ b cap, e = .returned (.slice (some ⟨b, 0, none⟩) (Byt.tok s.size s.data.toList).length cap) /\ (Byt.tok s.size s.data.toList).length <= cap /\ b < w'.heap.size /\ Hid (StrsAt w' b 0 (Byt.tok s.size s.data.toList)) /\ Below w.heap.size w w' := by
 refine (a_tokens s hs w).mono ?_
 rintro e w' ⟨v, rfl, hn, hown, hb⟩
 have h2 := hown.2
 obtain ⟨b, cap, rfl, h1, h2', h3⟩ := StrsAt.of_row hown hn
 refine ⟨b, cap, rfl, ?_, h2', h3, hb⟩
 rcases h2 with ⟨hv, _⟩ | ⟨g, cap', cur, hv, _, _, hc, _⟩
 . exact absurd hv hn
 . simp only [Value.slice.injEq] at hv
   rw [hv.2.2]; exact hc
theorem take_more (s : ByteArray) (bg e : Nat) (h : e < s.size) (hb : bg <= e) : (s.data.toList.take (e + 1)).drop bg = (s.data.toList.take e).drop bg ++ [s[e]] := by
 have hl : e < s.data.toList.length := by rw [Array.length_toList]; exact h
 rw [List.take_add_one, List.getElem?_eq_getElem hl, List.drop_append_of_le_length (by rw [List.length_take]; omega)]
 rfl
theorem ext_list (s : ByteArray) (a b : Nat) : (s.extract a b).data.toList = (s.data.toList.take b).drop a := by
 have h := ext_str s a b
 unfold Byt.strV at h
 simp only [Value.string.injEq] at h
 rw [h, List.drop_take]
def Byt.from (s : ByteArray) (e bg : Nat) (E : List Ln) : List Ln × Int × Nat := if e <= s.size then Byt.readAll E (Byt.segs ((s.data.toList.take e).drop bg) (s.data.toList.drop e)) else (E, 0, 0)
theorem from_on (s : ByteArray) (e bg : Nat) (E : List Ln) (he : e < s.size) (hb : bg <= e) (hc : ¬ s[e].toNat = 10) : Byt.from s e bg E = Byt.from s (e + 1) bg E := by
 unfold Byt.from
 rw [if_pos (by omega), if_pos (by omega), take_more s bg e he hb, dropb s e he]
 simp only [Byt.segs]; rw [if_neg hc]
theorem from_end (s : ByteArray) (e bg : Nat) (E : List Ln) (X : ByteArray) (hX : X.data.toList = (s.data.toList.take e).drop bg) (he : e = s.size \/ ∃ h : e < s.size, s[e].toNat = 10) (Z : Int × Ln) (hZ : Byt.readLn (Byt.tok X.size X.data.toList) E = Z) : Byt.from s e bg E = if Z.1 = 0 then Byt.from s (e + 1) (e + 1) (E ++ [Z.2]) else ([], Z.1, E.length + 1) := by
 have hsz : X.size = X.data.toList.length := by rw [Array.length_toList]; rfl
 have hle : e <= s.size := by rcases he with h | ⟨h, _⟩ <;> omega
 have h1 : Byt.from s e bg E = Byt.readAll E (Byt.segs X.data.toList (s.data.toList.drop e)) := by unfold Byt.from; rw [if_pos hle, hX]
 rw [h1]
 rcases he with h | ⟨h, hc⟩
 . have h2 : ∀ E, Byt.from s (e + 1) (e + 1) E = (E, 0, 0) := fun E => by unfold Byt.from; rw [if_neg (by omega)]
   have h3 : s.data.toList.drop e = [] := List.drop_eq_nil_of_le (by rw [Array.length_toList, h]; exact Nat.le_refl _)
   rw [h2, h3]
   simp only [Byt.segs, Byt.readAll]
   rw [<- hsz, hZ]
 . have h4 : (s.data.toList.take (e + 1)).drop (e + 1) = [] := List.drop_eq_nil_of_le (by rw [List.length_take]; omega)
   have h2 : ∀ E, Byt.from s (e + 1) (e + 1) E = Byt.readAll E (Byt.segs [] (s.data.toList.drop (e + 1))) := fun E => by unfold Byt.from; rw [if_pos (by omega), h4]
   rw [h2, dropb s e h]
   simp only [Byt.segs]
   rw [if_pos hc]
   simp only [Byt.readAll]
   rw [<- hsz, hZ]
theorem a_readLines (s : ByteArray) (hs : s.size <= 4096) (w : World) :
 Calls prog 124 #[.string s] w fun e w' => (∃ v, e = .returned (.tuple #[v, .int .i64 (Byt.readAll [] (Byt.segs [] s.data.toList)).2.1, .int .i64 (Byt.readAll [] (Byt.segs [] s.data.toList)).2.2]) /\ ((Byt.readAll [] (Byt.segs [] s.data.toList)).2.1 = 0 -> ∃ p cap, v = .slice p (Byt.readAll [] (Byt.segs [] s.data.toList)).1.length cap /\ (Byt.readAll [] (Byt.segs [] s.data.toList)).1.length <= 5000 /\ (∀ a, p = some a -> a.block < w'.heap.size) /\ LnsAt w' p (Byt.readAll [] (Byt.segs [] s.data.toList)).1)) /\ Below w.heap.size w w' := by
 obtain ⟨R, hR⟩ := zn1 (Byt.readAll [] (Byt.segs [] s.data.toList))
 rw [<- hR]
 have HR : Hid (R = Byt.from s 0 0 []) := by
  show R = _
  rw [hR]; unfold Byt.from; rw [if_pos (Nat.zero_le _)]; rfl
 clear hR
 have hmk : ∀ w, (Instr.makeSlice 143 (.int .i64 0) (.int .i64 0)).run prog w = .ok (.slice (some ⟨w.heap.size, 0, none⟩) 0 0) (w.alloc (.cells #[] 185)) := fun _ => by kernel_rfl
 have hinfo : (prog.info? 185).map (fun i => (i.zero, i.size, i.bytes)) = some (some (lnA ⟨#[]⟩ ins0 ⟨#[]⟩), 8, 80) := by kernel_rfl
 obtain ⟨i0, hi, hz0, hz1, hz2⟩ := info_parts hinfo
 go_enter func124, ntmps124
 go_wp2
 go_loopw [5, 6, 7] (fun v b6 e7 wr => ∃ (e bg : Nat) (E : List Ln), e <= s.size + 1 /\ bg <= e /\ E.length <= e /\ e7 = .int .i64 e /\ b6 = .int .i64 bg /\ v ≠ .slice none 0 0 /\ Hid (wr.ownsRow w.heap.size 185 8 v E.length (lnR E)) /\ Hid (Below w.heap.size w wr) /\ Hid (R = Byt.from s e bg E)) (fun _ _ e7 _ => s.size + 1 - (intOf e7).toNat)
 case atStart => exact ⟨0, 0, [], by omega, by omega, by simp, rfl, rfl, by simp, hide1 (World.ownsRow_made w _ 0 (Nat.le_refl _) zq483 rfl), hide1 ((Below.refl _ _).alloc (Nat.le_refl _) _), HR⟩
 case round =>
  obtain ⟨e, bg, E, he, hbe, hEe, rfl, rfl, hnn, hown, hb, hh⟩ := hrel
  clear HR hmk
  by_cases hle : e <= s.size
  . by_cases hmid : ∃ h : e < s.size, ¬ s[e].toNat = 10
    . obtain ⟨hlt, hc⟩ := hmid
      have hc' : ((s[e].toNat : Int) != 10) = true := by simp; omega
      rw [from_on s e bg E hlt hbe hc] at hh
      clear hc
      go_wp2
      go_roundw
      case rel => exact ⟨e + 1, bg, E, by omega, by omega, by omega, by go_num, rfl, hnn, hown, hb, hh⟩
      case measure => exact zq188
    . have hend : e = s.size \/ ∃ h : e < s.size, s[e].toNat = 10 := by
       by_cases h : e < s.size
       . exact .inr ⟨h, Classical.byContradiction fun hc => hmid ⟨h, hc⟩⟩
       . exact .inl (by omega)
      clear hmid
      obtain ⟨g, cap, rfl, hg0, hg1, hln⟩ := lns_own hown.out hnn
      obtain ⟨X, hX⟩ := zn1 (s.extract bg e)
      have hsl : ∀ w, (Instr.slice 9 (.string s) (some (.int .i64 (bg : Int))) (some (.int .i64 (e : Int))) none).run prog w = .ok (.string X) w := by
       intro w; rw [hX]; exact slice_mid s bg e hbe hle w
      have hXl : X.data.toList = (s.data.toList.take e).drop bg := by rw [hX]; exact ext_list s bg e
      have hXs : X.size <= 4096 := by
       have : X.size = X.data.toList.length := by rw [Array.length_toList]; rfl
       rw [this, hXl, List.length_drop, List.length_take, Array.length_toList]
       have : s.data.size = s.size := rfl
       omega
      obtain ⟨K, hK⟩ := zn1 (Byt.tok X.size X.data.toList)
      have htk := a_tokens2 X (by omega)
      have hKl := (tok_len X.size X.data.toList).1
      have hKs := (tok_len X.size X.data.toList).2
      have hXz : X.data.toList.length = X.size := by rw [Array.length_toList]; rfl
      rw [hXz, <- hK] at hKl hKs
      rw [<- hK] at htk
      obtain ⟨Z, hZ⟩ := zn1 (Byt.readLn K E)
      rw [from_end s e bg E X hXl hend Z (by rw [hZ, hK])] at hh
      have HTK := hide1 htk
      have HZ := hide1 hZ
      have HLN := hide1 hln
      have hKs' : Hid (Short K) := hide1 (fun t ht => by have := hKs t ht; omega)
      have hcond : Hid (e = s.size \/ ∃ h : e < s.size, s[e].toNat = 10) := hend
      clear htk hZ hln hX hXl hXz hKs hK hend
      obtain ⟨er, l⟩ := Z
      go_upto_region 6 with fail
      go_cut [27] from 18 to 27 (fun q wx => q = .bool false /\ wx = wr)
      case first =>
       by_cases hlt : e < s.size
       . have hc : s[e].toNat = 10 := by
          rcases hcond.out with h | ⟨h, hc⟩
          . omega
          . exact hc
         have hc' : ((s[e].toNat : Int) != 10) = false := by simp; omega
         clear hc
         exact zq360
       . have hlt' : decide ((e : Int) < (s.size : Int)) = false := by simp; omega
         exact zq360
      case rest =>
       obtain ⟨rfl, rfl⟩ := hcut
       clear hcond
       go_wp2_with fail
       refine (HTK.out _).mono ?_
       rintro e1 w1 ⟨tb, tcap, rfl, htc, htb, hst, hb1⟩
       have hrl := a_readLine tb 0 tcap K (by omega) htc (some ⟨g, 0, none⟩) cap E (by omega) w1 hst htb hKs' (hide1 (HLN.out.below hb1 (fun a h => by simp only [Option.some.injEq] at h; rw [<- h]; exact hg1))) (hide1 (fun a h => by simp only [Option.some.injEq] at h; rw [<- h]; exact Nat.lt_of_lt_of_le hg1 hb1.size))
       rw [<- HZ.out] at hrl
       have HRL := hide1 hrl
       have HB1 := hide1 (hb.out.trans (hb1.mono hb.out.size))
       have HO1 := hide1 (own_more hown.out hb1)
       clear hrl HTK HLN hst hsl
       go_wp2_with fail
       refine HRL.out.mono ?_
       rintro e1 w2 ⟨rfl, hb2⟩
       have HB2 := hide1 (HB1.out.trans (hb2.mono HB1.out.size))
       have HO2 := hide1 (own_more HO1.out hb2)
       have hsz2 := HB2.out.size
       clear HRL HB1 HO1 hb1 hb2 hb hown
       obtain ⟨nm, i, tg⟩ := l
       simp only [lnV, lnA]
       obtain ⟨NM, hNM⟩ := zn1 (⟨nm.toArray⟩ : ByteArray)
       obtain ⟨TG, hTG⟩ := zn1 (⟨tg.toArray⟩ : ByteArray)
       rw [<- hNM, <- hTG]
       have HNT := hide1 (And.intro hNM hTG)
       clear hNM hTG
       by_cases her : er = 0
       . have her' : (er != 0) = false := by simp [her]
         have hgo : Hid (R = Byt.from s (e + 1) (e + 1) (E ++ [(⟨nm, i, tg⟩ : Ln)])) := by
          show R = _
          rw [hh.out, if_pos her]
         clear hh her HZ
         have hrow : ∀ j, (Value.slice (some ⟨g, 0, none⟩) E.length cap).ownBlock = some j -> w.heap.size <= j := fun j hj => by
          simp only [Value.ownBlock, Option.some.injEq] at hj
          omega
         have HROW := hide1 hrow
         clear hrow
         go_wp2_with (at_builtin; refine wpList_append_own _ rfl (.tmp 45) (.tmp 47) 143 rfl w.heap.size 185 i0 (lnA ⟨#[]⟩ ins0 ⟨#[]⟩) 8 80 Tryz.underlying143 hi hz0 hz1 hz2 rfl (by decide) _ _ _ rfl ((HO2.out.alloc _).alloc _) ⟨_, 0, none⟩ 1 1 [.string NM, .int .i64 i.op, .int .i64 i.rd, .int .i64 i.rs1, .int .i64 i.rs2, .int .i64 i.im, .int .i64 i.ln, .string TG] rfl rfl ?c1 ?c2 ?c3 ?c4 ?c5 ?_)
         case c1 =>
          intro j u hj
          match j, hj with
          | 0, hj => simp at hj; subst hj; simp [Addr.add]
          | 1, hj => simp at hj; subst hj; simp [Addr.add]
          | 2, hj => simp at hj; subst hj; simp [Addr.add]
          | 3, hj => simp at hj; subst hj; simp [Addr.add]
          | 4, hj => simp at hj; subst hj; simp [Addr.add]
          | 5, hj => simp at hj; subst hj; simp [Addr.add]
          | 6, hj => simp at hj; subst hj; simp [Addr.add]
          | 7, hj => simp at hj; subst hj; simp [Addr.add]
          | j + 8, hj => simp at hj
         case c2 => intro u hu; simp at hu; rcases hu with rfl | rfl | rfl | rfl | rfl | rfl | rfl | rfl <;> rfl
         case c3 => unfold maxLen; omega
         case c4 => omega
         case c5 => simp; omega
         intro v' w3 hown' hgrow hnil
         have hnn' : v' ≠ .slice none 0 0 := fun h => hnil h
         have hrow2 := hide1 (((HB2.out.alloc (by omega) _).alloc (by simp; omega) _).grown hgrow (by simp; omega) HROW.out)
         clear hnil hgrow HO2 HB2
         obtain ⟨h1, h2⟩ := HNT.out
         have hown2 : Hid (w3.ownsRow w.heap.size 185 8 v' (E ++ [(⟨nm, i, tg⟩ : Ln)]).length (lnR (E ++ [(⟨nm, i, tg⟩ : Ln)]))) := by
          show w3.ownsRow w.heap.size 185 8 v' (E ++ [(⟨nm, i, tg⟩ : Ln)]).length (lnR (E ++ [(⟨nm, i, tg⟩ : Ln)]))
          rw [lnR_app, List.length_append]
          rw [h1, h2] at hown'
          exact hown'
         clear hown' h1 h2 HNT
         go_wp2
         go_roundw
         case rel =>
          first
           | exact ⟨e + 1, e + 1, E ++ [(⟨nm, i, tg⟩ : Ln)], by omega, by omega, by simp; omega, by go_num, by go_num, hnn', hown2, hrow2, hgo⟩
           | ((repeat apply Exists.intro); exact ⟨⟨e + 1, e + 1, E ++ [(⟨nm, i, tg⟩ : Ln)], by omega, by omega, by simp; omega, by go_num, by go_num, hnn', hown2, hrow2, hgo⟩, rfl⟩)
         case measure => exact zq188
       . have her' : (er != 0) = true := by simp [her]
         have hgo : Hid (R = ([], er, E.length + 1)) := by
          show R = _
          rw [hh.out, if_neg her]
         have hne := hide1 her
         clear hh her HZ
         go_wp2
         go_ret3
         exact ⟨⟨_, by rw [hgo.out]; rfl, fun h => absurd (by rw [hgo.out] at h; exact h) hne.out⟩, HB2.out.alloc (by omega) _⟩
  . have hT : Hid (R = (E, 0, 0)) := by
     show R = _
     rw [hh.out]; unfold Byt.from; rw [if_neg hle]
    obtain ⟨g, cap, rfl, hg0, hg1, hln⟩ := lns_own hown.out hnn
    have HLN := hide1 hln
    have hle' : decide ((e : Int) <= (s.size : Int)) = false := by simp; omega
    clear hh hln
    go_wp2
    go_ret3
    exact ⟨⟨_, by rw [hT.out]; rfl, fun _ => ⟨some ⟨g, 0, none⟩, cap, by rw [hT.out]; rfl, by rw [hT.out]; show E.length <= 5000; omega, fun a h => by simp only [Option.some.injEq] at h; rw [<- h]; exact hg1, by rw [hT.out]; exact HLN.out⟩⟩, hb.out⟩
theorem rowCount_ok (n : Int) : (rowCount n).toNat <= 70 /\ ((rowCount n).toNat : Int) = rowCount n := by
 unfold rowCount
 cases (n == 4) <;> cases (n == 2) <;> decide
theorem i_Encode (i : Ins) (w : World) :
 CB 89 #[insV i] (.tuple #[.int .i64 (encodeD i).1, .int .i64 (encodeD i).2]) w := by
 refine (i_Encode' i (rowCount i.ln).toNat (rowCount_ok _).1 (rowCount_ok _).2 w).mono ?_
 rintro e w' ⟨⟨st, hst, rfl⟩, hb⟩
 refine ⟨?_, hb⟩
 unfold encodeD
 rw [<- hst.out]
 cases st <;> rfl
theorem a_wordOf (i : Ins) (w : World) :
 CB 185 #[insV i] (.tuple #[.int .i64 (Byt.wordD i).1, .int .i64 (Byt.wordD i).2]) w := by
 unfold Byt.wordD insV
 by_cases h0 : i.ln = 0
 . rw [if_pos h0]
   have h0' : (i.ln == 0) = true := by simp [h0]
   go_enter func185, ntmps185
   go_wp2
   exact zq361
 rw [if_neg h0]
 have h0' : (i.ln == 0) = false := by simp [h0]
 by_cases h1 : i.op = 71
 . rw [if_pos h1]
   have h1' : (i.op == 71) = true := by simp [h1]
   unfold Byt.dataD
   have hd := fun w => a_dataOf i.im (-2147483648) 4294967295 w
   obtain ⟨V, hV⟩ := zn1 (if i.im < -2147483648 \/ 4294967295 < i.im then (0, 7) else (i.im, (0 : Int)))
   rw [<- hV]
   have e1 : (if i.im < -2147483648 \/ 4294967295 < i.im then 0 else i.im) = V.1 := by rw [hV]; split <;> rfl
   have e2 : (if i.im < -2147483648 \/ 4294967295 < i.im then (7 : Int) else 0) = V.2 := by rw [hV]; split <;> rfl
   rw [e1, e2] at hd
   have HD := hide1 hd
   clear hd hV e1 e2 h0 h1
   exact zq362
 rw [if_neg h1]
 have h1' : (i.op == 71) = false := by simp [h1]
 by_cases h2 : i.op = 72
 . rw [if_pos h2]
   have h2' : (i.op == 72) = true := by simp [h2]
   unfold Byt.dataD
   have hd := fun w => a_dataOf i.im (-32768) 65535 w
   obtain ⟨V, hV⟩ := zn1 (if i.im < -32768 \/ 65535 < i.im then (0, 7) else (i.im, (0 : Int)))
   rw [<- hV]
   have e1 : (if i.im < -32768 \/ 65535 < i.im then 0 else i.im) = V.1 := by rw [hV]; split <;> rfl
   have e2 : (if i.im < -32768 \/ 65535 < i.im then (7 : Int) else 0) = V.2 := by rw [hV]; split <;> rfl
   rw [e1, e2] at hd
   have HD := hide1 hd
   clear hd hV e1 e2 h0 h1 h2
   exact zq362
 rw [if_neg h2]
 have h2' : (i.op == 72) = false := by simp [h2]
 have he := i_Encode i
 unfold insV at he
 obtain ⟨V, hV⟩ := zn1 (encodeD i)
 rw [<- hV] at he |-
 have HE := hide1 he
 clear he hV h0 h1 h2
 by_cases hv : V.2 = 0
 . rw [if_pos hv]
   have hv' : (V.2 != 0) = false := by simp [hv]
   exact zq363
 . rw [if_neg hv]
   have hv' : (V.2 != 0) = true := by simp [hv]
   exact zq363
theorem leL_length (v : Int) : ∀ n, (leL v n).length = n
 | 0 => rfl
 | n + 1 => by simp [leL, leL_length v n]
theorem lay_step {L : List Ln} {k : Nat} {m : List UInt8} (h : k < L.length) : Byt.lay L (L.drop k) k m =
 if L[k].tg ≠ [] /\ Byt.findN L L[k].tg = L.length then ([], 8, k + 1) else
 if (Byt.wordD (Byt.aimed L L[k] m.length)).2 = 0 then Byt.lay L (L.drop (k + 1)) (k + 1) (m ++ Byt.leB (Byt.wordD (Byt.aimed L L[k] m.length)).1 L[k].i.ln.toNat) else ([], (Byt.wordD (Byt.aimed L L[k] m.length)).2, k + 1) := by
 rw [List.drop_eq_getElem_cons h]; rfl
theorem lay_no {L : List Ln} {k : Nat} {m : List UInt8} (h : k < L.length) (h1 : L[k].tg ≠ []) (h2 : Byt.findN L L[k].tg = L.length) : Byt.lay L (L.drop k) k m = ([], 8, k + 1) := by
 rw [lay_step h, if_pos ⟨h1, h2⟩]
theorem lay_yes {L : List Ln} {k : Nat} {m : List UInt8} (h : k < L.length) (h1 : ¬ (L[k].tg ≠ [] /\ Byt.findN L L[k].tg = L.length)) (i : Ins) (hi : Byt.aimed L L[k] m.length = i) : Byt.lay L (L.drop k) k m = if (Byt.wordD i).2 = 0 then Byt.lay L (L.drop (k + 1)) (k + 1) (m ++ Byt.leB (Byt.wordD i).1 L[k].i.ln.toNat) else ([], (Byt.wordD i).2, k + 1) := by
 rw [lay_step h, if_neg h1, hi]
theorem strNums_size (l : List Int) : (strOfNums l).size = l.length := by
 unfold strOfNums; simp [ByteArray.size]
theorem app_list (X B : ByteArray) : (X ++ B).data.toList = X.data.toList ++ B.data.toList := by
 rw [ByteArray.data_append, Array.toList_append]
theorem place_bd : ∀ (L : List Ln) (n : Nat), Tidy L -> 0 <= Byt.place L n /\ Byt.place L n <= 4 * L.length
 | [], n, _ => by cases n <;> simp [Byt.place]
 | l :: L, 0, _ => by simp [Byt.place]; omega
 | l :: L, n + 1, h => by
  have ih := place_bd L n (fun x hx => h x (List.mem_cons_of_mem _ hx))
  have := h l (by simp)
  simp only [Byt.place, List.length_cons]; omega
theorem a_layLines (p : Option Addr) (cap : Nat) (L : List Ln) (hL : L.length <= 5000) (hd : Hid (Tidy L)) (w : World) (hw : Hid (LnsAt w p L)) (hp : Hid (∀ a, p = some a -> a.block < w.heap.size)) :
 CB 125 #[.slice p L.length cap] (.tuple #[Byt.strV (Byt.lay L L 0 []).1, .int .i64 (Byt.lay L L 0 []).2.1, .int .i64 (Byt.lay L L 0 []).2.2]) w := by
 obtain ⟨R, hR⟩ := zn1 (Byt.lay L L 0 [])
 rw [<- hR]
 have HR : Hid (R = Byt.lay L (L.drop 0) 0 (⟨#[]⟩ : ByteArray).data.toList) := hR
 clear hR
 go_enter func125, ntmps125
 go_wp2
 go_loopw [5, 6] (fun v k6 wr => ∃ (k : Nat) (X : ByteArray), k <= L.length /\ X.size <= 4 * k /\ v = .string X /\ k6 = .int .i64 k /\ Hid (Below w.heap.size w wr) /\ Hid (R = Byt.lay L (L.drop k) k X.data.toList)) (fun _ k6 _ => L.length - (intOf k6).toNat)
 case atStart => exact ⟨0, ⟨#[]⟩, by omega, by decide, rfl, rfl, hide1 (Below.refl _ _), HR⟩
 case round =>
  obtain ⟨k, X, hk, hXs, rfl, rfl, hb, hh⟩ := hrel
  clear HR
  by_cases hlt : k < L.length
  . have hln := hide1 (hw.out.below hb.out hp.out)
    rcases hln.out with h0 | ⟨b, rfl, hcx⟩
    . exact zq352
    have hcx := hcx k hlt
    have hbl : b < wr.heap.size := Nat.lt_of_lt_of_le (hp.out _ rfl) hb.out.size
    have hz := hd.out L[k] (List.getElem_mem hlt)
    obtain ⟨z, hz', hz4⟩ : ∃ z : Nat, L[k].i.ln = z /\ z <= 4 := ⟨L[k].i.ln.toNat, by omega, by omega⟩
    obtain ⟨l, hl⟩ := zn1 (L[k])
    rw [<- hl] at hcx hz'
    have HL := hide1 hl
    clear hz hl
    obtain ⟨nm, i, tg⟩ := l
    have c0 := hcx.c0
    have c1 := hcx.c1
    have c2 := hcx.c2
    have c3 := hcx.c3
    have c4 := hcx.c4
    have c5 := hcx.c5
    have c6 := hcx.c6
    have c7 := hcx.c7
    simp only at c0 c1 c2 c3 c4 c5 c6 c7 hz'
    rw [hz'] at c6
    have HZ := hide1 hz'
    obtain ⟨NM, hNM⟩ := zn1 (⟨nm.toArray⟩ : ByteArray)
    obtain ⟨TG, hTG⟩ := zn1 (⟨tg.toArray⟩ : ByteArray)
    rw [<- hNM] at c0
    rw [<- hTG] at c7
    have hTl : TG.data.toList = tg := by rw [hTG]
    have q0 : (TG.toList == []) = decide (TG.data.toList = []) := eq_lit TG []
    rw [hTl] at q0
    have HTG := hide1 hTl
    clear hNM hTG hTl hz' hcx
    by_cases htg : tg = []
    . rw [decide_eq_true htg] at q0
      have hstep : Hid (R = if (Byt.wordD i).2 = 0 then Byt.lay L (L.drop (k + 1)) (k + 1) (X.data.toList ++ Byt.leB (Byt.wordD i).1 i.ln.toNat) else ([], (Byt.wordD i).2, k + 1)) := by
       show R = _
       rw [hh.out, lay_yes hlt (by rw [<- HL.out]; exact fun h => h.1 htg) i (by unfold Byt.aimed; rw [<- HL.out, if_pos htg]), <- HL.out]
      clear hh htg
      obtain ⟨V, hV⟩ := zn1 (Byt.wordD ⟨i.op, i.rd, i.rs1, i.rs2, i.im, z⟩)
      have hgo : Hid (R = if V.2 = 0 then Byt.lay L (L.drop (k + 1)) (k + 1) (X.data.toList ++ Byt.leB V.1 z) else ([], V.2, k + 1)) := by
       show R = _
       have h := hstep.out
       have hI : i = ⟨i.op, i.rd, i.rs1, i.rs2, i.im, z⟩ := by rw [<- HZ.out]
       rw [hI, <- hV] at h
       first | exact h | (rw [HZ.out] at h; exact h)
      have hnb := Bx.new wr NM ⟨i.op, i.rd, i.rs1, i.rs2, i.im, z⟩ TG
      have hww : Below w.heap.size w (wr.alloc (lnC NM ⟨i.op, i.rd, i.rs1, i.rs2, i.im, z⟩ TG)) := hb.out.alloc hb.out.size _
      have hwo := a_wordOf ⟨i.op, i.rd, i.rs1, i.rs2, i.im, z⟩ (wr.alloc (lnC NM ⟨i.op, i.rd, i.rs1, i.rs2, i.im, z⟩ TG))
      rw [<- hV] at hwo
      have HWO := hide1 (hwo.mono fun e w1 h => (⟨h.1, hide1 (hww.trans (h.2.mono hww.size)), (hnb.more h.2 hnb.lt).c6⟩ : _ /\ Hid (Below w.heap.size w w1) /\ w1.cell? ⟨wr.heap.size, 6, none⟩ = some (.int .i64 z)))
      unfold insV lnC at HWO
      clear hwo hww hnb hV hstep
      go_wp2_with fail
      exact zq364
    . rw [decide_eq_false htg] at q0
      have hww : Below w.heap.size w (wr.alloc (lnC NM ⟨i.op, i.rd, i.rs1, i.rs2, i.im, z⟩ TG)) := hb.out.alloc hb.out.size _
      have hfn := a_findName (some ⟨b, 0, none⟩) cap L hL TG _ (hide1 (hw.out.below hww hp.out))
      have hpl := fun n hn => a_placeOf (some ⟨b, 0, none⟩) cap L hL hd n hn _ (hide1 (hw.out.below hww hp.out))
      rw [HTG.out] at hfn
      obtain ⟨F, hF⟩ := zn1 (Byt.findN L tg)
      have hFl : F <= L.length := by rw [hF]; exact Byt.findN_le L tg
      rw [<- hF] at hfn
      have HF := hide1 hF
      have HFN := hide1 hfn
      have hpl' := hpl F (by omega)
      have hPb := place_bd L F hd.out
      obtain ⟨P, hP⟩ := zn1 (Byt.place L F)
      rw [<- hP] at hpl' hPb
      have HP := hide1 hP
      have HPL := hide1 hpl'
      unfold lnC at HFN HPL
      clear hfn hpl hpl' hww hF hP
      by_cases hfe : F = L.length
      . have hno : Hid (R = ([], 8, k + 1)) := by
         show R = _
         rw [hh.out]
         exact lay_no hlt (by rw [<- HL.out]; exact htg) (by rw [<- HL.out]; show Byt.findN L tg = L.length; rw [<- HF.out]; exact hfe)
        have e1 : ((F : Int) == (L.length : Int)) = true := by simp; omega
        have e2 : (F == L.length) = true := by simp; omega
        clear hh htg hfe
        go_wp2_with (go_at_call 183; refine HFN.out.mono ?_; rintro e w1 ⟨rfl, rfl⟩)
        go_ret3
        exact ⟨by rw [hno.out]; rfl, hb.out.alloc hb.out.size _⟩
      . have hstep : Hid (R = if (Byt.wordD ⟨i.op, i.rd, i.rs1, i.rs2, P - X.size, i.ln⟩).2 = 0 then Byt.lay L (L.drop (k + 1)) (k + 1) (X.data.toList ++ Byt.leB (Byt.wordD ⟨i.op, i.rd, i.rs1, i.rs2, P - X.size, i.ln⟩).1 i.ln.toNat) else ([], (Byt.wordD ⟨i.op, i.rd, i.rs1, i.rs2, P - X.size, i.ln⟩).2, k + 1)) := by
         show R = _
         rw [hh.out, lay_yes hlt (by rw [<- HL.out]; intro h; exact hfe (by rw [HF.out]; exact h.2)) ⟨i.op, i.rd, i.rs1, i.rs2, P - X.size, i.ln⟩ (by
          unfold Byt.aimed
          rw [<- HL.out, if_neg htg]
          show ({ i with im := Byt.place L (Byt.findN L tg) - _ } : Ins) = _
          rw [<- HF.out, <- HP.out, Array.length_toList]; rfl), <- HL.out]
        have e1 : ((F : Int) == (L.length : Int)) = false := by simp; omega
        have e2 : (F == L.length) = false := by simp; omega
        clear hh htg hfe
        obtain ⟨V, hV⟩ := zn1 (Byt.wordD ⟨i.op, i.rd, i.rs1, i.rs2, P - X.size, z⟩)
        have hgo : Hid (R = if V.2 = 0 then Byt.lay L (L.drop (k + 1)) (k + 1) (X.data.toList ++ Byt.leB V.1 z) else ([], V.2, k + 1)) := by
         show R = _
         have h := hstep.out
         have hI : (⟨i.op, i.rd, i.rs1, i.rs2, P - X.size, i.ln⟩ : Ins) = ⟨i.op, i.rd, i.rs1, i.rs2, P - X.size, z⟩ := by rw [<- HZ.out]
         rw [hI, <- hV] at h
         first | exact h | (rw [HZ.out] at h; exact h)
        have hnb := Bx.new wr NM ⟨i.op, i.rd, i.rs1, i.rs2, P - X.size, z⟩ TG
        have hww : Below w.heap.size w (wr.alloc (lnC NM ⟨i.op, i.rd, i.rs1, i.rs2, P - X.size, z⟩ TG)) := hb.out.alloc hb.out.size _
        have hwo := a_wordOf ⟨i.op, i.rd, i.rs1, i.rs2, P - X.size, z⟩ (wr.alloc (lnC NM ⟨i.op, i.rd, i.rs1, i.rs2, P - X.size, z⟩ TG))
        rw [<- hV] at hwo
        have HWO := hide1 (hwo.mono fun e w1 h => (⟨h.1, hide1 (hww.trans (h.2.mono hww.size)), (hnb.more h.2 hnb.lt).c6⟩ : _ /\ Hid (Below w.heap.size w w1) /\ w1.cell? ⟨wr.heap.size, 6, none⟩ = some (.int .i64 z)))
        unfold insV lnC at HWO
        clear hwo hww hnb hV hstep
        go_upto_region 7 with fail
        go_wp2_with (first | (go_at_call 183; refine HFN.out.mono ?_; rintro e w1 ⟨rfl, rfl⟩) | (go_at_call 184; refine HPL.out.mono ?_; rintro e w1 ⟨rfl, rfl⟩) | (go_at_call 185; fail))
        exact zq364
  . have hT : Hid (R = (X.data.toList, 0, 0)) := by
     show R = _
     rw [hh.out, List.drop_eq_nil_of_le (by omega)]; rfl
    have hlt' : decide ((k : Int) < (L.length : Int)) = false := by simp; omega
    clear hh
    go_wp2
    go_ret3
    exact ⟨by rw [hT.out]; unfold Byt.strV; simp only [mk_list]; rfl, hb.out⟩
theorem opd_ln {i j : Ins} {g h : List UInt8} {c : Nat} {T : List (List UInt8)} (e : Byt.opdP i g c T = some (j, h)) : j.ln = i.ln /\ j.op = i.op := by
 unfold Byt.opdP at e
 split at e
 . cases hr : Byt.opdR i c (T[0]?.getD []) with
   | none => rw [hr] at e; simp at e
   | some x =>
    rw [hr] at e
    simp only [Option.map_some, Option.some.injEq, Prod.mk.injEq] at e
    rw [<- e.1]
    unfold Byt.opdR at hr
    split at hr
    . simp at hr
    . simp only [Option.some.injEq] at hr
      rw [<- hr]
      split
      . exact ⟨rfl, rfl⟩
      . split <;> exact ⟨rfl, rfl⟩
 . split at e
   . cases hr : Byt.opdM i (T[0]?.getD []) (T[1]?.getD []) (T[2]?.getD []) (T[3]?.getD []) with
     | none => rw [hr] at e; simp at e
     | some x =>
      rw [hr] at e
      simp only [Option.map_some, Option.some.injEq, Prod.mk.injEq] at e
      rw [<- e.1]
      unfold Byt.opdM at hr
      split at hr
      . split at hr
        . simp at hr
        . simp only [Option.some.injEq] at hr
          rw [<- hr]; exact ⟨rfl, rfl⟩
      . simp at hr
   . split at e
     . simp only [Option.some.injEq, Prod.mk.injEq] at e
       rw [<- e.1]; exact ⟨rfl, rfl⟩
     . cases hr : Byt.opdN i c (T[0]?.getD []) with
       | none => rw [hr] at e; simp at e
       | some x =>
        rw [hr] at e
        simp only [Option.map_some, Option.some.injEq, Prod.mk.injEq] at e
        rw [<- e.1]
        unfold Byt.opdN at hr
        split at hr
        . simp only [Option.some.injEq] at hr
          rw [<- hr]
          split <;> exact ⟨rfl, rfl⟩
        . simp at hr
theorem ops_ln : ∀ (cs : List Nat) (m : Bool) (i : Ins) (g : List UInt8) (T : List (List UInt8)) (j : Ins) (h : List UInt8), Byt.opsP cs m i g T = some (j, h) -> j.ln = i.ln /\ j.op = i.op
 | [], m, i, g, T, j, h, e => by
  simp only [Byt.opsP] at e
  split at e
  . simp only [Option.some.injEq, Prod.mk.injEq] at e; rw [<- e.1]; exact ⟨rfl, rfl⟩
  . simp at e
 | c :: cs, m, i, g, T, j, h, e => by
  simp only [Byt.opsP] at e
  split at e
  . simp at e
  . split at e
    . simp at e
    . next x y he =>
      have h1 := opd_ln he
      have h2 := ops_ln cs true x y _ j h e
      exact ⟨h2.1.trans h1.1, h2.2.trans h1.2⟩
theorem wrdFrom_sz (t : List UInt8) : ∀ f op, (Byt.wrdFrom t f op).2 = 0 \/ (Byt.wrdFrom t f op).2 = 2 \/ (Byt.wrdFrom t f op).2 = 4
 | 0, op => .inl rfl
 | f + 1, op => by
  have ih := wrdFrom_sz t f (op + 1)
  unfold Byt.wrdFrom
  split
  . right; right; rfl
  . split
    . right; left; rfl
    . exact ih
theorem wrd_sz (t : List UInt8) : (Byt.wrd t).2 = 0 \/ (Byt.wrd t).2 = 2 \/ (Byt.wrd t).2 = 4 := by
 unfold Byt.wrd
 split
 . right; right; rfl
 . split
   . right; left; rfl
   . exact wrdFrom_sz t 70 1
theorem readR_tidy (nm : List UInt8) (T : List (List UInt8)) : (Byt.readR nm T).2.i.ln = 0 \/ (Byt.readR nm T).2.i.ln = 2 \/ (Byt.readR nm T).2.i.ln = 4 := by
 cases T with
 | nil => left; rfl
 | cons t LT =>
  by_cases hz : (Byt.wrd t).2 = 0
  . rw [readR_no nm t LT hz]; left; rfl
  . cases ho : Byt.opsP (Byt.shp (Byt.wrd t).1) false ⟨(Byt.wrd t).1, 0, 0, 0, 0, (Byt.wrd t).2⟩ [] LT with
    | none => rw [readR_bad nm t LT hz ho]; left; rfl
    | some r =>
     obtain ⟨i, g⟩ := r
     rw [readR_yes nm t LT hz ho]
     have h1 := (ops_ln _ _ _ _ _ _ _ ho).1
     have h2 := wrd_sz t
     simp only at h1 |-
     omega
theorem readLn_tidy (T : List (List UInt8)) (E : List Ln) : (Byt.readLn T E).2.i.ln = 0 \/ (Byt.readLn T E).2.i.ln = 2 \/ (Byt.readLn T E).2.i.ln = 4 := by
 unfold Byt.readLn
 split
 . split
   . split
     . left; rfl
     . exact readR_tidy _ _
   . left; rfl
 . exact readR_tidy _ _
theorem readAll_tidy : ∀ (ts : List (List UInt8)) (E : List Ln), Tidy E -> Tidy (Byt.readAll E ts).1
 | [], E, h => h
 | t :: ts, E, h => by
  simp only [Byt.readAll]
  split
  . refine readAll_tidy ts _ (fun l hl => ?_)
    rcases List.mem_append.1 hl with hl | hl
    . exact h l hl
    . rw [List.mem_singleton] at hl; rw [hl]; exact readLn_tidy _ _
  . intro l hl; simp at hl
theorem a_Assemble (s : ByteArray) (w : World) :
 CB 73 #[.string s] (.tuple #[Byt.strV (Byt.asmD s.data.toList).1, .int .i64 (Byt.asmD s.data.toList).2.1, .int .i64 (Byt.asmD s.data.toList).2.2]) w := by
 obtain ⟨R, hR⟩ := zn1 (Byt.asmD s.data.toList)
 rw [<- hR]
 unfold Byt.asmD at hR
 rw [show s.data.toList.length = s.size by rw [Array.length_toList]; rfl] at hR
 by_cases h1 : 4096 < s.size
 . rw [if_pos h1] at hR
   have h1' : decide (4096 < (s.size : Int)) = true := by simp; omega
   have HR := hide1 hR
   clear hR
   go_enter func73, ntmps73
   go_wp2
   go_ret3
   exact ⟨by rw [HR.out]; rfl, Below.refl _ _⟩
 rw [if_neg h1] at hR
 have h1' : decide (4096 < (s.size : Int)) = false := by simp; omega
 have hcl := a_countLines s (by omega) w
 obtain ⟨C, hC⟩ := zn1 (1 + Byt.nls s.data.toList)
 rw [<- hC] at hcl hR
 have HCL := hide1 hcl
 clear hcl hC
 by_cases h2 : 256 < C
 . rw [if_pos h2] at hR
   have h2' : decide (256 < (C : Int)) = true := by simp; omega
   have HR := hide1 hR
   clear hR
   go_enter func73, ntmps73
   go_wp2_with (go_at_call 123; refine HCL.out.mono ?_; rintro e w1 ⟨rfl, rfl⟩)
   go_ret3
   exact ⟨by rw [HR.out]; rfl, Below.refl _ _⟩
 rw [if_neg h2] at hR
 have h2' : decide (256 < (C : Int)) = false := by simp; omega
 have hrl := a_readLines s (by omega) w
 have htd := readAll_tidy (Byt.segs [] s.data.toList) [] (fun l hl => by simp at hl)
 obtain ⟨Q, hQ⟩ := zn1 (Byt.readAll [] (Byt.segs [] s.data.toList))
 rw [<- hQ] at hrl hR htd
 have HRL := hide1 hrl
 have HTD := hide1 htd
 clear hrl hQ htd
 obtain ⟨L, er, bad⟩ := Q
 by_cases h3 : er = 0
 . have h3' : (er != 0) = false := by simp [h3]
   have HR : Hid (R = Byt.lay L L 0 []) := by
    show R = _
    rw [hR]; simp only; rw [if_pos h3]
   have H3 := hide1 h3
   clear hR
   go_enter func73, ntmps73
   go_wp2_with fail
   refine HCL.out.mono ?_
   rintro e w1 ⟨rfl, rfl⟩
   go_wp2_with fail
   refine HRL.out.mono ?_
   rintro e w1 ⟨⟨v, rfl, hv⟩, hb⟩
   obtain ⟨p, cap, rfl, hL, hp, hln⟩ := hv H3.out
   have hlay := a_layLines p cap L hL (hide1 HTD.out) w1 (hide1 hln) (hide1 hp)
   rw [<- HR.out] at hlay
   have HLAY := hide1 hlay
   obtain ⟨X, hX⟩ := zn1 (Byt.strV R.1)
   rw [<- hX] at HLAY
   have HX := hide1 hX
   clear hlay hv hX
   go_wp2_with fail
   refine HLAY.out.mono ?_
   rintro e w2 ⟨rfl, hb2⟩
   go_wp2
   go_ret3
   exact ⟨by rw [<- HX.out]; rfl, hb.trans (hb2.mono hb.size)⟩
 . have h3' : (er != 0) = true := by simp [h3]
   have HR : Hid (R = ([], er, bad)) := by
    show R = _
    rw [hR]; simp only; rw [if_neg h3]
   clear hR
   go_enter func73, ntmps73
   go_wp2_with fail
   refine HCL.out.mono ?_
   rintro e w1 ⟨rfl, rfl⟩
   go_wp2_with fail
   refine HRL.out.mono ?_
   rintro e w1 ⟨⟨v, rfl, hv⟩, hb⟩
   clear hv
   go_wp2
   go_ret3
   exact ⟨by rw [HR.out]; rfl, hb⟩
section
attribute [local go_sem ↓] Go.wp_at_zero Go.wp_at_succ
theorem a_Asm' (s : ByteArray) (w : World) : Calls prog 73 #[.string s] w fun e w' => (∃ (X : ByteArray) (er n : Int), e = .returned (.tuple #[.string X, .int .i64 er, .int .i64 n])) /\ Kept [] w w' :=
 (a_Assemble s w).mono (fun e w' h => ⟨⟨_, _, _, h.1⟩, Below.kept h.2 []⟩)
theorem u_Le4' (v : Int) (w : World) : Calls prog 99 #[.int .i64 v, .int .i64 4] w fun e w' => (∃ B : ByteArray, B.size = 4 /\ e = .returned (.string B)) /\ Kept [] w w' :=
 (v_Le4 v w).mono (fun e w' h => ⟨⟨_, leA_size v 4, h.1⟩, Below.kept h.2 []⟩)
def MadeR (w0 w' : World) (z : Nat) (e : Ending) : Prop := (e = .returned (.pointer none) \/ ∃ mb rb, w0.heap.size <= mb /\ w0.heap.size <= rb /\ e = .returned (.pointer (some ⟨mb, 0, none⟩)) /\ Mz w' mb rb z) /\ Kept [] w0 w'
theorem kept_new {w0 w w' : World} {mb rb : Nat} (h0 : Kept [] w0 w) (hk : Kept [mb, rb] w w') (h1 : w0.heap.size <= mb) (h2 : w0.heap.size <= rb) : Kept [] w0 w' :=
 ⟨hk.os.trans h0.os, hk.tape.trans h0.tape, hk.output.trans h0.output, Nat.le_trans h0.size hk.size, fun k q _ => (hk.block k (Nat.lt_of_lt_of_le q h0.size) (by simp; omega)).trans (h0.block k q (by simp))⟩
set_option maxRecDepth 100000 in
theorem k_built (s : ByteArray) (a b : Int) (w : World) : Calls prog 100 #[.string s, .int .i64 a, .int .i64 b] w fun e w' => MadeR w w' 4096 e := by
 have N := hide1 (m_New 4096 (by decide) w)
 go_enter func100, ntmps100
 go_wp2_with fail
 refine N.out.mono ?_
 rintro o w1 ⟨rfl, hm1, hk1⟩
 have M1 := hide1 hm1
 have K1 := hide1 hk1
 clear N hm1 hk1
 go_wp2_with fail
 refine (a_Asm' s _).mono ?_
 rintro o w2 ⟨⟨X, er, n, rfl⟩, hk2⟩
 have M2 := hide1 (M1.out.kept hk2)
 have K2 := hide1 (K1.out.trans hk2)
 clear hk2 M1 K1
 by_cases her : er = 0
 . have q : (er != 0) = false := by simp [her]
   have q' : (er == 0) = true := by simp [her]
   clear her
   have L1 := hide1 (m_Load _ _ _ 0 X w2 M2.out)
   go_wp2_with fail
   refine L1.out.mono ?_
   rintro o w3 ⟨⟨e, rfl⟩, hm3, hk3⟩
   have M3 := hide1 hm3
   have K3 := hide1 (kept_new K2.out hk3 (by omega) (by omega))
   clear L1 hm3 hk3 M2 K2
   go_wp2_with fail
   refine (u_Le4' a _).mono ?_
   rintro o w4 ⟨⟨A, hA, rfl⟩, hk4⟩
   have M4 := hide1 (M3.out.kept hk4)
   have K4 := hide1 (K3.out.trans hk4)
   clear hk4 M3 K3
   go_wp2_with fail
   refine (u_Le4' b _).mono ?_
   rintro o w5 ⟨⟨B, hB, rfl⟩, hk5⟩
   have M5 := hide1 (M4.out.kept hk5)
   have K5 := hide1 (K4.out.trans hk5)
   obtain ⟨c, hcg, hcz, hc⟩ := add_in A B (by omega)
   clear hk5 M4 K4 hA hB hcg hcz
   have L2 := hide1 (m_Load _ _ _ 1024 c w5 M5.out)
   go_wp2_with fail
   refine L2.out.mono ?_
   rintro o w6 ⟨⟨e, rfl⟩, hm6, hk6⟩
   have M6 := hide1 hm6
   have K6 := hide1 (kept_new K5.out hk6 (by omega) (by omega))
   clear L2 hm6 hk6 M5 K5
   go_wp2_with fail
   go_ret
   exact ⟨.inr ⟨_, _, by omega, by omega, rfl, M6.out⟩, K6.out⟩
 . exact zq365
structure LOp where
 k : Int
 a : Int
 b : Int
 c : Int
 s : ByteArray
def LOp.v (x : LOp) : Value := .agg #[.int .i64 x.k, .int .i64 x.a, .int .i64 x.b, .int .i64 x.c, .string x.s]
def LOp.o (x : LOp) : Obj := .cells #[.int .i64 x.k, .int .i64 x.a, .int .i64 x.b, .int .i64 x.c, .string x.s] 39
structure LOk (x : LOp) : Prop where
 a0 : -9223372036854775808 <= x.a
 a1 : x.a <= 9223372036854775807
 b0 : -9223372036854775808 <= x.b
 b1 : x.b <= 9223372036854775807
 c0 : -9223372036854775808 <= x.c
 c1 : x.c <= 9223372036854775807
 s1 : x.s.size <= 1125899906842624
def MPost (w : World) (mb rb z : Nat) (o : Ending) (w' : World) : Prop := BoolR o /\ Mz w' mb rb z /\ Kept [mb, rb] w w'
theorem kept_of {F : List Nat} {w w' : World} (h : Kept [] w w') : Kept F w w' := h.mono (by simp)
theorem kept_out {w0 w w' : World} {mb rb nb qb : Nat} (h0 : Kept [mb, rb] w0 w) (hk : Kept [nb, qb] w w') (h1 : w0.heap.size <= nb) (h2 : w0.heap.size <= qb) : Kept [mb, rb] w0 w' :=
 ⟨hk.os.trans h0.os, hk.tape.trans h0.tape, hk.output.trans h0.output, Nat.le_trans h0.size hk.size, fun k q hn => (hk.block k (Nat.lt_of_lt_of_le q h0.size) (by simp; omega)).trans (h0.block k q hn)⟩
set_option maxRecDepth 100000 in
theorem k_twin (mb rb z : Nat) (n : Int) (w : World) (hw : Hid (Mz w mb rb z)) : Calls prog 33 #[.pointer (some ⟨mb, 0, none⟩), .int .i64 n] w fun o w' => MPost w mb rb z o w' := by
 have l0 := hw.out.m.lt
 have C := hide1 (m_Copy mb rb z w hw.out)
 go_enter func33, ntmps33
 go_wp2_with fail
 refine C.out.mono ?_
 rintro o w1 ⟨rfl, hy1, hk1⟩
 have Y1 := hide1 hy1
 have M1 := hide1 (hw.out.kept hk1)
 have K1 := hide1 hk1
 have s1 := hk1.size
 clear C hy1 hk1
 go_wp2_with fail
 refine (m_Flush w.heap.size w1).mono ?_
 rintro o w1' ⟨rfl, rfl⟩
 go_wp2_with fail
 refine (m_Run mb rb z n w1' M1.out).mono ?_
 rintro o w2 ⟨⟨v, er, q0, q1, rfl⟩, hm, hk⟩
 have M2 := hide1 hm
 have Y2 := hide1 (Y1.out.more hk (by simp; omega) (by simp; omega))
 have K2 := hide1 ((kept_of K1.out).trans hk)
 clear hm hk M1 Y1 K1 q0 q1
 go_wp2_with fail
 refine (m_Run w.heap.size (w.heap.size + 1) z n w2 Y2.out).mono ?_
 rintro o w3 ⟨⟨v2, er2, q0, q1, rfl⟩, hm, hk⟩
 have Y3 := hide1 hm
 have M3 := hide1 (M2.out.more hk (by simp; omega) (by simp; omega))
 have K3 := hide1 (kept_out K2.out hk (by omega) (by omega))
 clear hm hk M2 Y2 K2 q0 q1
 go_wp2_with fail
 refine (m_Show mb rb w3 M3.out.m).mono ?_
 rintro o w4 ⟨⟨s, z0, z1, rfl⟩, hk⟩
 have M4 := hide1 (M3.out.kept hk)
 have Y4 := hide1 (Y3.out.kept hk)
 have K4 := hide1 (K3.out.trans (kept_of hk))
 clear hk M3 Y3 K3 z0 z1
 go_wp2_with fail
 refine (m_Show w.heap.size (w.heap.size + 1) w4 Y4.out.m).mono ?_
 rintro o w5 ⟨⟨t, z0, z1, rfl⟩, hk⟩
 have M5 := hide1 (M4.out.kept hk)
 have Y5 := hide1 (Y4.out.kept hk)
 have K5 := hide1 (K4.out.trans (kept_of hk))
 clear hk M4 Y4 K4 z0 z1
 go_wp2_with fail
 refine (k_ram mb rb z w5 M5).mono ?_
 rintro o w6 ⟨⟨r, zr, rfl⟩, rfl⟩
 clear zr
 go_wp2_with fail
 refine (k_ram w.heap.size (w.heap.size + 1) z w6 Y5).mono ?_
 rintro o w7 ⟨⟨r2, zr, rfl⟩, rfl⟩
 exact zq366
set_option maxRecDepth 100000 in
theorem k_reset (mb rb z : Nat) (w : World) (hw : Hid (Mz w mb rb z)) : Calls prog 77 #[.pointer (some ⟨mb, 0, none⟩)] w fun o w' => MPost w mb rb z o w' := by
 have l0 := hw.out.m.lt
 have hz := hw.out.le
 go_enter func77, ntmps77
 go_wp2_with fail
 refine (k_ram mb rb z w hw).mono ?_
 rintro o w1 ⟨⟨r, zr, rfl⟩, rfl⟩
 clear zr
 go_wp2_with fail
 refine (m_Size mb rb z w1 hw.out).mono ?_
 rintro o w1 ⟨rfl, rfl⟩
 go_wp2_with fail
 refine (m_Reset mb rb z w1 hw.out).mono ?_
 rintro o w2 ⟨rfl, hm, hk⟩
 have M2 := hide1 hm
 have K2 := hide1 hk
 have s2 := hk.size
 clear hm hk
 go_wp2_with fail
 refine (m_New z hz w2).mono ?_
 rintro o w3 ⟨rfl, hy, hk⟩
 have Y3 := hide1 hy
 have M3 := hide1 (M2.out.kept hk)
 have K3 := hide1 (K2.out.trans (kept_of hk))
 clear hy hk M2 K2
 go_wp2_with fail
 refine (m_Show mb rb w3 M3.out.m).mono ?_
 rintro o w4 ⟨⟨s, z0, z1, rfl⟩, hk⟩
 have M4 := hide1 (M3.out.kept hk)
 have Y4 := hide1 (Y3.out.kept hk)
 have K4 := hide1 (K3.out.trans (kept_of hk))
 clear hk M3 Y3 K3 z0 z1
 go_wp2_with fail
 refine (m_Show _ _ w4 Y4.out.m).mono ?_
 rintro o w5 ⟨⟨t, z0, z1, rfl⟩, hk⟩
 have M5 := hide1 (M4.out.kept hk)
 have K5 := hide1 (K4.out.trans (kept_of hk))
 clear hk M4 Y4 K4 z0 z1
 go_wp2_with fail
 refine (k_ram mb rb z w5 M5).mono ?_
 rintro o w6 ⟨⟨r2, zr, rfl⟩, rfl⟩
 exact zq366
theorem box_not {w : World} {mb rb z : Nat} (h : Mz w mb rb z) : ¬ w.heap.size ∈ [mb, rb] := by have := h.m.lt; simp; omega
set_option maxRecDepth 100000 in
theorem k_plain2 (mb rb z : Nat) (a b c : Int) (s : ByteArray) (w : World) (hw : Hid (Mz w mb rb z)) : Calls prog 35 #[.pointer (some ⟨mb, 0, none⟩), .agg #[.int .i64 2, .int .i64 a, .int .i64 b, .int .i64 c, .string s]] w fun o w' => MPost w mb rb z o w' := by
 have k0 : Kept [] w (w.alloc (.cells #[.int .i64 2, .int .i64 a, .int .i64 b, .int .i64 c, .string s] 37)) := zq135
 have hn := box_not hw.out
 have M0 := hide1 (hw.out.kept k0)
 have K0 : Hid (Kept [mb, rb] w (w.alloc (.cells #[.int .i64 2, .int .i64 a, .int .i64 b, .int .i64 c, .string s] 37))) := zq138
 have ob0 := BoxF.new w [.int .i64 2, .int .i64 a, .int .i64 b, .int .i64 c, .string s] 37
 clear k0 hw
 go_enter func35, ntmps35
 go_wp2_with fail
 refine (m_Load mb rb z b s _ M0.out).mono ?_
 exact zq367
set_option maxRecDepth 100000 in
theorem k_plain4 (mb rb z : Nat) (a b c : Int) (s : ByteArray) (w : World) (hw : Hid (Mz w mb rb z)) : Calls prog 35 #[.pointer (some ⟨mb, 0, none⟩), .agg #[.int .i64 4, .int .i64 a, .int .i64 b, .int .i64 c, .string s]] w fun o w' => MPost w mb rb z o w' := by
 have k0 : Kept [] w (w.alloc (.cells #[.int .i64 4, .int .i64 a, .int .i64 b, .int .i64 c, .string s] 37)) := zq135
 have hn := box_not hw.out
 have M0 := hide1 (hw.out.kept k0)
 have K0 : Hid (Kept [mb, rb] w (w.alloc (.cells #[.int .i64 4, .int .i64 a, .int .i64 b, .int .i64 c, .string s] 37))) := zq138
 have ob0 := BoxF.new w [.int .i64 4, .int .i64 a, .int .i64 b, .int .i64 c, .string s] 37
 clear k0 hw
 go_enter func35, ntmps35
 go_wp2_with fail
 refine (m_Run mb rb z b _ M0.out).mono ?_
 rintro o w1 ⟨⟨v, er, q0, q1, rfl⟩, hm, hk⟩
 exact zq368
set_option maxRecDepth 100000 in
theorem k_plain5 (mb rb z : Nat) (a b c : Int) (s : ByteArray) (w : World) (hw : Hid (Mz w mb rb z)) : Calls prog 35 #[.pointer (some ⟨mb, 0, none⟩), .agg #[.int .i64 5, .int .i64 a, .int .i64 b, .int .i64 c, .string s]] w fun o w' => MPost w mb rb z o w' := by
 have k0 : Kept [] w (w.alloc (.cells #[.int .i64 5, .int .i64 a, .int .i64 b, .int .i64 c, .string s] 37)) := zq135
 have hn := box_not hw.out
 have M0 := hide1 (hw.out.kept k0)
 have K0 : Hid (Kept [mb, rb] w (w.alloc (.cells #[.int .i64 5, .int .i64 a, .int .i64 b, .int .i64 c, .string s] 37))) := zq138
 have ob0 := BoxF.new w [.int .i64 5, .int .i64 a, .int .i64 b, .int .i64 c, .string s] 37
 clear k0 hw
 go_enter func35, ntmps35
 go_wp2_with fail
 refine (m_Tick mb rb z b _ M0.out).mono ?_
 exact zq367
set_option maxRecDepth 100000 in
theorem k_plain6 (mb rb z : Nat) (a b c : Int) (s : ByteArray) (w : World) (hw : Hid (Mz w mb rb z)) : Calls prog 35 #[.pointer (some ⟨mb, 0, none⟩), .agg #[.int .i64 6, .int .i64 a, .int .i64 b, .int .i64 c, .string s]] w fun o w' => MPost w mb rb z o w' := by
 have k0 : Kept [] w (w.alloc (.cells #[.int .i64 6, .int .i64 a, .int .i64 b, .int .i64 c, .string s] 37)) := zq135
 have hn := box_not hw.out
 have M0 := hide1 (hw.out.kept k0)
 have K0 : Hid (Kept [mb, rb] w (w.alloc (.cells #[.int .i64 6, .int .i64 a, .int .i64 b, .int .i64 c, .string s] 37))) := zq138
 have ob0 := BoxF.new w [.int .i64 6, .int .i64 a, .int .i64 b, .int .i64 c, .string s] 37
 clear k0 hw
 go_enter func35, ntmps35
 go_wp2_with fail
 refine (m_Feed mb rb z s _ M0.out).mono ?_
 rintro o w1 ⟨⟨v, er, q0, q1, q2, rfl⟩, hm, hk⟩
 have M1 := hide1 hm
 have K1 := hide1 (K0.out.trans hk)
 have ob1 := ob0.more hk hn
 have o4 := ob1.cell 4 _ rfl
 exact zq369
set_option maxRecDepth 100000 in
theorem k_plain8 (mb rb z : Nat) (a b c : Int) (s : ByteArray) (w : World) (hw : Hid (Mz w mb rb z)) : Calls prog 35 #[.pointer (some ⟨mb, 0, none⟩), .agg #[.int .i64 8, .int .i64 a, .int .i64 b, .int .i64 c, .string s]] w fun o w' => MPost w mb rb z o w' := by
 have k0 : Kept [] w (w.alloc (.cells #[.int .i64 8, .int .i64 a, .int .i64 b, .int .i64 c, .string s] 37)) := zq135
 have hn := box_not hw.out
 have M0 := hide1 (hw.out.kept k0)
 have K0 : Hid (Kept [mb, rb] w (w.alloc (.cells #[.int .i64 8, .int .i64 a, .int .i64 b, .int .i64 c, .string s] 37))) := zq138
 have ob0 := BoxF.new w [.int .i64 8, .int .i64 a, .int .i64 b, .int .i64 c, .string s] 37
 clear k0 hw
 go_enter func35, ntmps35
 go_wp2_with fail
 refine (k_reset mb rb z _ M0).mono ?_
 rintro o w1 ⟨⟨r, rfl⟩, hm, hk⟩
 exact zq368
set_option maxRecDepth 100000 in
theorem k_plain7 (mb rb z : Nat) (a b c : Int) (s : ByteArray) (w : World) (hw : Hid (Mz w mb rb z)) : Calls prog 35 #[.pointer (some ⟨mb, 0, none⟩), .agg #[.int .i64 7, .int .i64 a, .int .i64 b, .int .i64 c, .string s]] w fun o w' => MPost w mb rb z o w' := by
 have k0 : Kept [] w (w.alloc (.cells #[.int .i64 7, .int .i64 a, .int .i64 b, .int .i64 c, .string s] 37)) := zq135
 have hn := box_not hw.out
 have M0 := hide1 (hw.out.kept k0)
 have K0 : Hid (Kept [mb, rb] w (w.alloc (.cells #[.int .i64 7, .int .i64 a, .int .i64 b, .int .i64 c, .string s] 37))) := zq138
 have ob0 := BoxF.new w [.int .i64 7, .int .i64 a, .int .i64 b, .int .i64 c, .string s] 37
 clear k0 hw
 go_enter func35, ntmps35
 go_wp2_with fail
 refine (m_Drain mb rb z _ M0.out).mono ?_
 rintro o w1 ⟨⟨t, z0, rfl⟩, hm, hk⟩
 have M1 := hide1 hm
 have K1 := hide1 (K0.out.trans hk)
 clear hm hk M0 K0 z0
 go_wp2_with fail
 refine (m_Drain mb rb z _ M1.out).mono ?_
 rintro o w2 ⟨⟨t2, z0, rfl⟩, hm, hk⟩
 have M2 := hide1 hm
 have K2 := hide1 (K1.out.trans hk)
 clear hm hk M1 K1 z0
 exact zq370
set_option maxRecDepth 100000 in
theorem k_plain10 (mb rb z : Nat) (a b c : Int) (s : ByteArray) (w : World) (hw : Hid (Mz w mb rb z)) : Calls prog 35 #[.pointer (some ⟨mb, 0, none⟩), .agg #[.int .i64 10, .int .i64 a, .int .i64 b, .int .i64 c, .string s]] w fun o w' => MPost w mb rb z o w' := by
 have k0 : Kept [] w (w.alloc (.cells #[.int .i64 10, .int .i64 a, .int .i64 b, .int .i64 c, .string s] 37)) := zq135
 have hn := box_not hw.out
 have M0 := hide1 (hw.out.kept k0)
 have K0 : Hid (Kept [mb, rb] w (w.alloc (.cells #[.int .i64 10, .int .i64 a, .int .i64 b, .int .i64 c, .string s] 37))) := zq138
 have ob0 := BoxF.new w [.int .i64 10, .int .i64 a, .int .i64 b, .int .i64 c, .string s] 37
 clear k0 hw
 go_enter func35, ntmps35
 go_wp2_with fail
 refine (m_Show mb rb _ M0.out.m).mono ?_
 rintro o w1 ⟨⟨t, z0, z1, rfl⟩, hk⟩
 have M1 := hide1 (M0.out.kept hk)
 have K1 := hide1 (K0.out.trans (kept_of hk))
 clear hk M0 K0 z0 z1
 go_wp2_with fail
 refine (m_Flush mb w1).mono ?_
 rintro o w1' ⟨rfl, rfl⟩
 go_wp2_with fail
 refine (m_Show mb rb _ M1.out.m).mono ?_
 rintro o w2 ⟨⟨t2, z0, z1, rfl⟩, hk⟩
 have M2 := hide1 (M1.out.kept hk)
 have K2 := hide1 (K1.out.trans (kept_of hk))
 clear hk M1 K1 z0 z1
 exact zq370
set_option maxRecDepth 100000 in
theorem k_plain22 (mb rb z : Nat) (a b c : Int) (s : ByteArray) (w : World) (hw : Hid (Mz w mb rb z)) : Calls prog 35 #[.pointer (some ⟨mb, 0, none⟩), .agg #[.int .i64 22, .int .i64 a, .int .i64 b, .int .i64 c, .string s]] w fun o w' => MPost w mb rb z o w' := by
 have k0 : Kept [] w (w.alloc (.cells #[.int .i64 22, .int .i64 a, .int .i64 b, .int .i64 c, .string s] 37)) := zq135
 have hn := box_not hw.out
 have M0 := hide1 (hw.out.kept k0)
 have K0 : Hid (Kept [mb, rb] w (w.alloc (.cells #[.int .i64 22, .int .i64 a, .int .i64 b, .int .i64 c, .string s] 37))) := zq138
 have ob0 := BoxF.new w [.int .i64 22, .int .i64 a, .int .i64 b, .int .i64 c, .string s] 37
 clear k0 hw
 go_enter func35, ntmps35
 go_wp2_with fail
 refine (a_Asm' s _).mono ?_
 rintro o w1 ⟨⟨X, er, n, rfl⟩, hk⟩
 have M1 := hide1 (M0.out.kept hk)
 have K1 := hide1 (K0.out.trans (kept_of hk))
 have ob1 := ob0.kept hk
 have o2 := ob1.cell 2 _ rfl
 clear hk M0 K0
 by_cases her : er = 0
 . have q : (er == 0) = true := by simp [her]
   clear her
   go_wp2_with fail
   refine (m_Load mb rb z b X _ M1.out).mono ?_
   rintro o w2 ⟨⟨e, rfl⟩, hm, hk⟩
   have M2 := hide1 hm
   have K2 := hide1 (K1.out.trans hk)
   clear hm hk M1 K1
   exact zq370
 . have q : (er == 0) = false := by simp [her]
   clear her
   exact zq371
set_option maxRecDepth 100000 in
theorem k_plainN (mb rb z : Nat) (k a b c : Int) (s : ByteArray) (hk : ¬ (k = 2 \/ (4 <= k /\ k <= 8) \/ k = 10 \/ k = 22)) (w : World) (hw : Hid (Mz w mb rb z)) : Calls prog 35 #[.pointer (some ⟨mb, 0, none⟩), .agg #[.int .i64 k, .int .i64 a, .int .i64 b, .int .i64 c, .string s]] w fun o w' => MPost w mb rb z o w' := by
 have k0 : Kept [] w (w.alloc (.cells #[.int .i64 k, .int .i64 a, .int .i64 b, .int .i64 c, .string s] 37)) := zq135
 have M0 := hide1 (hw.out.kept k0)
 have K0 : Hid (Kept [mb, rb] w (w.alloc (.cells #[.int .i64 k, .int .i64 a, .int .i64 b, .int .i64 c, .string s] 37))) := zq138
 have q2 : (k == 2) = false := by simp; omega
 have q4 : (k == 4) = false := by simp; omega
 have q5 : (k == 5) = false := by simp; omega
 have q6 : (k == 6) = false := by simp; omega
 have q7 : (k == 7) = false := by simp; omega
 have q8 : (k == 8) = false := by simp; omega
 have q10 : (k == 10) = false := by simp; omega
 have q22 : (k == 22) = false := by simp; omega
 clear k0 hw hk
 go_enter func35, ntmps35
 go_wp2_with fail
 go_ret
 exact ⟨⟨_, rfl⟩, M0.out, K0.out⟩
theorem k_plain (mb rb z : Nat) (k a b c : Int) (s : ByteArray) (w : World) (hw : Hid (Mz w mb rb z)) : Calls prog 35 #[.pointer (some ⟨mb, 0, none⟩), .agg #[.int .i64 k, .int .i64 a, .int .i64 b, .int .i64 c, .string s]] w fun o w' => MPost w mb rb z o w' := by
 by_cases h : k = 2 \/ (4 <= k /\ k <= 8) \/ k = 10 \/ k = 22
 . have : k = 2 \/ k = 4 \/ k = 5 \/ k = 6 \/ k = 7 \/ k = 8 \/ k = 10 \/ k = 22 := by omega
   rcases this with rfl | rfl | rfl | rfl | rfl | rfl | rfl | rfl
   . exact k_plain2 mb rb z a b c s w hw
   . exact k_plain4 mb rb z a b c s w hw
   . exact k_plain5 mb rb z a b c s w hw
   . exact k_plain6 mb rb z a b c s w hw
   . exact k_plain7 mb rb z a b c s w hw
   . exact k_plain8 mb rb z a b c s w hw
   . exact k_plain10 mb rb z a b c s w hw
   . exact k_plain22 mb rb z a b c s w hw
 . exact k_plainN mb rb z k a b c s h w hw
def TPost (w : World) (mb rb z : Nat) (o : Ending) (w' : World) : Prop := o = .returned (.bool true) /\ Mz w' mb rb z /\ Kept [mb, rb] w w'
def ptrs (U : List Nat) : List Value := U.map fun b => .pointer (some ⟨b, 0, none⟩)
theorem own_kept {F : List Nat} {w w' : World} {B e size n : Nat} {v : Value} {xs : List Value} (h : w.ownsRow B e size v n xs) (hk : Kept F w w') (hn : ∀ k, v.ownBlock = some k -> k ∉ F) : w'.ownsRow B e size v n xs := by
 refine ⟨h.1, ?_⟩
 rcases h.2 with h' | ⟨g, cap, cur, hv, hB, hg, h1, h2, h3, h4⟩
 . exact .inl h'
 . exact .inr ⟨g, cap, cur, hv, hB, by rw [hk.block g (Array.getElem?_eq_some_iff.1 hg).1 (hn g (by rw [hv]; rfl))]; exact hg, h1, h2, h3, h4⟩
theorem grown_kept {w w' : World} {r : Option Nat} (h : w.grownBy w' r) : Kept r.toList w w' := ⟨h.os, h.tape, h.output, h.size, fun k hk hn => h.block k hk (fun e => hn (by rw [<- e]; simp))⟩
theorem own_new {v v' : Value} {g n c H : Nat} (hv : v' = .slice (some ⟨g, 0, none⟩) n c) (hat : v.ownBlock = some g \/ g = H) (k : Nat) (hk : v'.ownBlock = some k) : v.ownBlock = some k \/ k = H := by
 rw [hv] at hk
 simp only [Value.ownBlock, Option.some.injEq] at hk
 rw [<- hk]; exact hat
structure Kp1 where
 mb : Nat
 rb : Nat
 z : Nat
structure Kw (w : World) (wb : Nat) (P : List Kp1) (u : Value) : Prop where
 c0 : w.cell? ⟨wb, 0, none⟩ = some u
 fro : ∀ o, w.frozen? ⟨wb, o, none⟩ = false
 lt : wb < w.heap.size
 ox : w.ownsRow (wb + 1) 40 1 u P.length (ptrs (P.map Kp1.mb))
 pr : ∀ a (h : a < P.length), Mz w P[a].mb P[a].rb P[a].z
 ge : ∀ a (h : a < P.length), wb < P[a].mb /\ wb < P[a].rb
 su : ∀ a (h : a < P.length), u.ownBlock ≠ some P[a].mb /\ u.ownBlock ≠ some P[a].rb
 dj : ∀ a b (ha : a < P.length) (hb : b < P.length), a ≠ b -> P[a].mb ≠ P[b].mb /\ P[a].mb ≠ P[b].rb /\ P[a].rb ≠ P[b].mb /\ P[a].rb ≠ P[b].rb
theorem Kw.keep {w w' : World} {wb : Nat} {P : List Kp1} {u : Value} (h : Kw w wb P u) (hk : Kept [] w w') : Kw w' wb P u :=
 ⟨(hk.cell (p := ⟨wb, 0, none⟩) h.lt (by simp)).trans h.c0, fun o => (hk.frozen (p := ⟨wb, o, none⟩) h.lt (by simp)).trans (h.fro o), Nat.lt_of_lt_of_le h.lt hk.size, own_kept h.ox hk (by simp), fun a ha => (h.pr a ha).kept hk, h.ge, h.su, h.dj⟩
theorem Kw.act {w w' : World} {wb : Nat} {P : List Kp1} {u : Value} (h : Kw w wb P u) (j : Nat) (hj : j < P.length) (hm : Mz w' P[j].mb P[j].rb P[j].z) (hk : Kept [P[j].mb, P[j].rb] w w') : Kw w' wb P u := by
 have g := h.ge j hj
 have n0 : wb ∉ [P[j].mb, P[j].rb] := by simp; omega
 have nu : ∀ k, u.ownBlock = some k -> k ∉ [P[j].mb, P[j].rb] := fun k hk q => by
  simp at q
  rcases q with e | e
  . exact (h.su j hj).1 (by rw [hk, e])
  . exact (h.su j hj).2 (by rw [hk, e])
 refine ⟨(hk.cell (p := ⟨wb, 0, none⟩) h.lt n0).trans h.c0, fun o => (hk.frozen (p := ⟨wb, o, none⟩) h.lt n0).trans (h.fro o), Nat.lt_of_lt_of_le h.lt hk.size, own_kept h.ox hk nu, fun a ha => ?_, h.ge, h.su, h.dj⟩
 by_cases e : a = j
 . subst e; exact hm
 . have d := h.dj a j ha hj e
   exact (h.pr a ha).more hk (by simp; exact ⟨d.1, d.2.1⟩) (by simp; exact ⟨d.2.2.1, d.2.2.2⟩)
theorem Kw.push {w w' : World} {wb : Nat} {P : List Kp1} {u : Value} (h : Kw w wb P u) (p : Kp1) (hp : Mz w p.mb p.rb p.z) (N : Nat) (hN : N <= p.mb /\ N <= p.rb) (h0 : wb < N) (hu : ∀ k, u.ownBlock = some k -> k < N) (hP : ∀ a (h : a < P.length), P[a].mb < N /\ P[a].rb < N) (g cap : Nat) (hg : w.grownBy w' u.ownBlock) (ho : w'.ownsRow (wb + 1) 40 1 (.slice (some ⟨g, 0, none⟩) (P.length + 1) cap) (P.length + 1) (ptrs (P.map Kp1.mb) ++ [.pointer (some ⟨p.mb, 0, none⟩)])) (hat : u.ownBlock = some g \/ g = w.heap.size) :
 Kw (w'.setCell ⟨wb, 0, none⟩ (.slice (some ⟨g, 0, none⟩) (P.length + 1) cap)) wb (P ++ [p]) (.slice (some ⟨g, 0, none⟩) (P.length + 1) cap) := by
 have hk := grown_kept hg
 have n0 : wb ∉ u.ownBlock.toList := fun q => by have := (h.ox.lt wb (by simpa using q)).1; omega
 have hs := hk.size
 have hl := h.lt
 have ks : Kept [wb] w' (w'.setCell ⟨wb, 0, none⟩ (.slice (some ⟨g, 0, none⟩) (P.length + 1) cap)) := (Kept.refl _ _).setCell (.inl (by simp)) _
 have hg1 : wb + 1 <= g := (ho.lt g rfl).1
 have lp := hp.m.lt
 have on := fun k (hk : (Value.slice (some ⟨g, 0, none⟩) (P.length + 1) cap).ownBlock = some k) => own_new (v := u) rfl hat k hk
 have mz : ∀ mb rb z, Mz w mb rb z -> (wb < mb /\ wb < rb) -> (u.ownBlock ≠ some mb /\ u.ownBlock ≠ some rb) -> Mz (w'.setCell ⟨wb, 0, none⟩ (.slice (some ⟨g, 0, none⟩) (P.length + 1) cap)) mb rb z := fun mb rb z hm h1 h2 =>
  (hm.more hk (fun q => h2.1 (by simpa using q)) (fun q => h2.2 (by simpa using q))).more ks (by simp; omega) (by simp; omega)
 have pu : u.ownBlock ≠ some p.mb /\ u.ownBlock ≠ some p.rb := ⟨fun e => by have := hu _ e; omega, fun e => by have := hu _ e; omega⟩
 refine ⟨World.cell?_setCell_same _ _ _ ((hk.cell (p := ⟨wb, 0, none⟩) hl n0).trans h.c0), fun o => by rw [World.frozen?_setCell]; exact (hk.frozen (p := ⟨wb, o, none⟩) hl n0).trans (h.fro o), Nat.lt_of_lt_of_le (Nat.lt_of_lt_of_le hl hs) ks.size, ?_, ?_, ?_, ?_, ?_⟩
 . have := own_kept ho ks (fun k hk q => by simp only [Value.ownBlock, Option.some.injEq] at hk; simp at q; omega)
   simpa [ptrs] using this
 . intro a ha
   rw [List.getElem_append]
   split
   . next q => exact mz _ _ _ (h.pr a q) (h.ge a q) (h.su a q)
   . simp only [List.getElem_singleton]; exact mz _ _ _ hp ⟨by omega, by omega⟩ pu
 . intro a ha
   rw [List.getElem_append]
   split
   . next q => exact h.ge a q
   . simp only [List.getElem_singleton]; omega
 . intro a ha
   rw [List.getElem_append]
   split
   . next q =>
     have l := (h.pr a q).m.lt
     have s := h.su a q
     exact ⟨fun e => by rcases on _ e with r | r; exact s.1 r; omega, fun e => by rcases on _ e with r | r; exact s.2 r; omega⟩
   . simp only [List.getElem_singleton]
     exact ⟨fun e => by rcases on _ e with r | r; exact pu.1 r; omega, fun e => by rcases on _ e with r | r; exact pu.2 r; omega⟩
 . intro a b ha hb hab
   rw [List.getElem_append, List.getElem_append]
   split
   . next q =>
     split
     . next q2 => exact h.dj a b q q2 hab
     . simp only [List.getElem_singleton]
       have := hP a q
       omega
   . next q =>
     split
     . next q2 =>
       simp only [List.getElem_singleton]
       have := hP b q2
       omega
     . next q2 => simp at ha hb; omega
theorem kept_below {F : List Nat} {w w' : World} {wb : Nat} (h : Kept F w w') (hF : ∀ k ∈ F, wb <= k) (hl : wb <= w.heap.size) : Below wb w w' :=
 ⟨h.os, h.tape, h.output, h.size, fun k hk => h.block k (by omega) (fun q => by have := hF k q; omega)⟩
theorem info_xm : (prog.info? 40).map (fun i => (i.zero, i.size, i.bytes)) = some (some (.pointer none), 1, 8) := by kernel_rfl
def KwH (w : World) (wb n : Nat) : Prop := ∃ P u, Kw w wb P u /\ P.length <= n
theorem KwH.keep {w w' : World} {wb n : Nat} (h : KwH w wb n) (hk : Kept [] w w') : KwH w' wb n := by
 obtain ⟨P, u, a, b⟩ := h; exact ⟨P, u, a.keep hk, b⟩
theorem KwH.mono {w : World} {wb n m : Nat} (h : KwH w wb n) (hn : n <= m) : KwH w wb m := by
 obtain ⟨P, u, a, b⟩ := h; exact ⟨P, u, a, by omega⟩
theorem KwH.lt {w : World} {wb n : Nat} (h : KwH w wb n) : wb < w.heap.size := by
 obtain ⟨P, u, a, b⟩ := h; exact a.lt
theorem app_k {w : World} {wb : Nat} {P : List Kp1} {u : Value} (h : Kw w wb P u) (p : Kp1) (hp : Mz w p.mb p.rb p.z) (N : Nat) (hN : N <= p.mb /\ N <= p.rb) (h0 : wb < N) (hu : ∀ k, u.ownBlock = some k -> k < N) (hP : ∀ a (h : a < P.length), P[a].mb < N /\ P[a].rb < N) (ty : Nat) (hU : P.length <= 1073741824) : ∃ g cap w', (Builtin.append_ #[32, 32] ty #[u, .slice (some ⟨w.heap.size, 0, none⟩) 1 1]).run prog (w.alloc (.cells #[.pointer (some ⟨p.mb, 0, none⟩)] 40)) = .ok (.slice (some ⟨g, 0, none⟩) (P.length + 1) cap) w' /\ Kw (w'.setCell ⟨wb, 0, none⟩ (.slice (some ⟨g, 0, none⟩) (P.length + 1) cap)) wb (P ++ [p]) (.slice (some ⟨g, 0, none⟩) (P.length + 1) cap) /\ w'.cell? ⟨wb, 0, none⟩ = some u /\ (∀ o, w'.frozen? ⟨wb, o, none⟩ = false) /\ wb < w'.heap.size /\ Kept (wb :: u.ownBlock.toList) w w' := by
 obtain ⟨i0, hi, hz0, hz1, hz2⟩ := info_parts info_xm
 have k0 : Kept [] w (w.alloc (.cells #[.pointer (some ⟨p.mb, 0, none⟩)] 40)) := zq135
 have ha := h.keep k0
 have hl := h.lt
 obtain ⟨g, cap, w', hr, ho, hg, hat, hlt⟩ := run_append_lies (P := prog) (w.alloc (.cells #[.pointer (some ⟨p.mb, 0, none⟩)] 40)) 32 ty (wb + 1) 40 i0 (.pointer none) 1 8 Tryz.underlying32 hi hz0 hz1 hz2 rfl (by decide) u P.length (ptrs (P.map Kp1.mb)) ha.ox ⟨w.heap.size, 0, none⟩ 1 1 [.pointer (some ⟨p.mb, 0, none⟩)] rfl (by
  intro j x hj
  match j, hj with
  | 0, hj => simp at hj; subst hj; simp [Addr.add]
  | j + 1, hj => simp at hj) (by intro x hx; simp at hx; subst hx; rfl) (by decide) zq483 (by omega) (by simp; omega) _ rfl
 have hk := grown_kept hg
 have n0 : wb ∉ u.ownBlock.toList := fun q => by have := (ha.ox.lt wb (by simpa using q)).1; omega
 refine ⟨g, cap, w', hr, ha.push p (hp.kept k0) N hN h0 hu hP g cap hg ho hat, (hk.cell (p := ⟨wb, 0, none⟩) ha.lt n0).trans ha.c0, fun o => (hk.frozen (p := ⟨wb, o, none⟩) ha.lt n0).trans (ha.fro o), Nat.lt_of_lt_of_le ha.lt hk.size, ?_⟩
 exact (k0.mono (by simp)).trans (hk.mono (fun k q => by simp at q |-; exact .inr q))
theorem wpList_appk {ops : Array Oper} {rest : List Oper} {o : Oper} {a : Act} {Q : Exit -> Act -> World -> Prop} (hgd : o.guard = none) (s x : Operand) (ho : o.op = .call { callee := .builtin .append, args := #[s, x], argTypes := #[32, 32] })
 {w : World} {wb : Nat} {P : List Kp1} {u : Value} (h : Kw w wb P u) (p : Kp1) (hp : Mz w p.mb p.rb p.z) (N : Nat) (hN : N <= p.mb /\ N <= p.rb) (h0 : wb < N) (hu : ∀ k, u.ownBlock = some k -> k < N) (hP : ∀ a (h : a < P.length), P[a].mb < N /\ P[a].rb < N) (hU : P.length <= 1073741824) (hs : a.eval s = u) (hx : a.eval x = .slice (some ⟨w.heap.size, 0, none⟩) 1 1)
 (hK : ∀ g cap w', Kw (w'.setCell ⟨wb, 0, none⟩ (.slice (some ⟨g, 0, none⟩) (P.length + 1) cap)) wb (P ++ [p]) (.slice (some ⟨g, 0, none⟩) (P.length + 1) cap) -> w'.cell? ⟨wb, 0, none⟩ = some u -> (∀ o, w'.frozen? ⟨wb, o, none⟩ = false) -> wb < w'.heap.size -> Kept (wb :: u.ownBlock.toList) w w' -> wpList prog ops Q rest (a.put o.dst (.slice (some ⟨g, 0, none⟩) (P.length + 1) cap)) w') :
 wpList prog ops Q (o :: rest) a (w.alloc (.cells #[.pointer (some ⟨p.mb, 0, none⟩)] 40)) := by
 refine wpList_plain hgd fun K hK' => ?_
 obtain ⟨g, cap, w', hr, h1, h2, h3, h4, h5⟩ := app_k h p hp N hN h0 hu hP o.type hU
 unfold Oper.wp execOp
 simp only [ho, resolve, invoke, builtin, Sem.run_bind, Sem.run_pure, Result.andThen_ok, List.map_toArray, List.map_cons, List.map_nil, hs, hx, hr]
 exact hK' _ _ (hK g cap w' h1 h2 h3 h4 h5)
set_option maxRecDepth 100000 in
theorem k_join (wb : Nat) (P : List Kp1) (u : Value) (p : Kp1) (N : Nat) (hN : N <= p.mb /\ N <= p.rb) (h0 : wb < N) (hu : ∀ k, u.ownBlock = some k -> k < N) (hP : ∀ a (h : a < P.length), P[a].mb < N /\ P[a].rb < N) (hU : P.length <= 1073741824) (w : World) (hw : Hid (Kw w wb P u)) (hp : Hid (Mz w p.mb p.rb p.z)) :
 Calls prog 28 #[.pointer (some ⟨wb, 0, none⟩), .pointer (some ⟨p.mb, 0, none⟩)] w fun e w' => e = .returned (.tuple #[]) /\ KwH w' wb (P.length + 1) /\ Kept (wb :: u.ownBlock.toList) w w' := by
 have c0 := hw.out.c0
 have fr := hw.out.fro
 have hl := hw.out.lt
 have hl' : ¬ wb = w.heap.size := by omega
 go_enter func28, ntmps28
 go_wp2_with (at_builtin; refine wpList_appk rfl _ _ rfl hw.out p hp.out N hN h0 hu hP hU rfl rfl ?_)
 intro g cap w3 L4 d0 df dl B3
 have HL := hide1 (And.intro L4 (B3.setCell (p := ⟨wb, 0, none⟩) (.inl (by simp)) (.slice (some ⟨g, 0, none⟩) (P.length + 1) cap)))
 clear L4 B3 c0 fr
 go_wp2_with fail
 go_end0
 exact ⟨rfl, ⟨_, _, HL.out.1, by simp⟩, HL.out.2⟩
end
theorem hexv_dec (d : Nat) (h : d < 10) : Byt.hexv (UInt8.ofNat (48 + d)) = d := by
 have : (UInt8.ofNat (48 + d)).toNat = 48 + d := by simp [UInt8.toNat_ofNat']; omega
 unfold Byt.hexv; rw [this]; rw [if_pos (by omega)]; omega
theorem digs_app (b : Nat) : ∀ (l m : List UInt8) (acc : Nat), Byt.digs b acc (l ++ m) = match Byt.digs b acc l with | some x => Byt.digs b x m | none => none
 | [], m, acc => rfl
 | c :: l, m, acc => by
  simp only [List.cons_append, Byt.digs]
  split
  . rfl
  . exact digs_app b l m _
theorem digs_dec (n : Nat) : Byt.digs 10 0 (Lib.decDigits n) = some n := by
 induction n using Nat.strongRecOn with
 | ind n ih =>
  by_cases h : n < 10
  . rw [Lib.decDigits_one h]
    simp only [Byt.digs]
    rw [hexv_dec n h, if_neg (by omega)]; simp
  . rw [Lib.decDigits.eq_def n, dif_neg h, digs_app, ih (n / 10) (by omega)]
    simp only [Byt.digs]
    rw [hexv_dec _ (by omega), if_neg (by omega)]
    congr 1; omega
theorem dec_len (n k : Nat) (h : n < 10 ^ (k + 1)) : (Lib.decDigits n).length <= k + 1 := by
 induction k generalizing n with
 | zero => rw [Lib.decDigits_one (by simpa using h)]; simp
 | succ k ih =>
  by_cases h1 : n < 10
  . rw [Lib.decDigits_one h1]; simp
  . rw [Lib.decDigits.eq_def n, dif_neg h1]
    have := ih (n / 10) (by rw [Nat.pow_succ] at h; omega)
    simp; omega
theorem dec_ne (n : Nat) : 1 <= (Lib.decDigits n).length := by
 rw [Lib.decDigits.eq_def]; split <;> simp
theorem dec_all (n : Nat) : ∀ c ∈ Lib.decDigits n, Byt.dig c = true := by
 induction n using Nat.strongRecOn with
 | ind n ih =>
  have hd : ∀ d, d < 10 -> Byt.dig (UInt8.ofNat (48 + d)) = true := by
   intro d hd
   have : (UInt8.ofNat (48 + d)).toNat = 48 + d := by simp [UInt8.toNat_ofNat']; omega
   unfold Byt.dig; rw [this]; simp; omega
  by_cases h : n < 10
  . rw [Lib.decDigits_one h]; intro c hc; rw [List.mem_singleton] at hc; rw [hc]; exact hd n h
  . rw [Lib.decDigits.eq_def n, dif_neg h]
    intro c hc
    rw [List.mem_append] at hc
    rcases hc with hc | hc
    . exact ih (n / 10) (by omega) c hc
    . rw [List.mem_singleton] at hc; rw [hc]; exact hd _ (by omega)
theorem plain_dec (n : Nat) (h : n < 10000000000) : Byt.plain (Lib.decDigits n) = some n := by
 unfold Byt.plain
 rw [if_neg]
 . unfold Byt.rdig
   have h1 := dec_ne n
   have h2 := dec_len n 9 (by omega)
   rw [if_neg (by omega)]; exact digs_dec n
 . rintro ⟨_, _, h3⟩
   have := dec_all n 120 (List.mem_of_getElem? h3)
   exact absurd this (by decide)
theorem dec_head (n : Nat) : (Lib.decDigits n)[0]? ≠ some 45 := fun h => absurd (dec_all n 45 (List.mem_of_getElem? h)) (by decide)
theorem number_itoa (v : Int) (h0 : -10000000000 < v) (h1 : v < 10000000000) : Byt.number (Lib.itoa v) = (v, true) := by
 by_cases h : v < 0
 . obtain ⟨n, rfl⟩ : ∃ n : Nat, v = -(n : Int) := ⟨v.natAbs, by omega⟩
   rw [Lib.itoa_neg n (by omega)]
   unfold Byt.number
   rw [if_pos (show (45 :: Lib.decDigits n)[0]? = some 45 from rfl)]
   simp [plain_dec n (by omega)]
 . obtain ⟨n, rfl⟩ : ∃ n : Nat, v = (n : Int) := ⟨v.toNat, by omega⟩
   rw [Lib.itoa_nonneg]
   unfold Byt.number
   rw [if_neg (dec_head n)]
   simp [plain_dec n (by omega)]
theorem rowEnd_app : ∀ (a r : List UInt8), (∀ c ∈ a, Byt.inn c = true) -> Byt.rowEnd r = 0 -> Byt.rowEnd (a ++ r) = a.length
 | [], r, _, h => by simpa using h
 | c :: a, r, ha, h => by
  simp only [List.cons_append, Byt.rowEnd]
  rw [if_pos (ha c (by simp)), rowEnd_app a r (fun d hd => ha d (by simp [hd])) h]; simp
theorem not35 (c : UInt8) (h : Byt.inn c = true) : ¬ c.toNat = 35 := zq372
theorem tok_row (f : Nat) (a r : List UInt8) (hne : a ≠ []) (ha : ∀ c ∈ a, Byt.inn c = true) (hr : Byt.rowEnd r = 0) : Byt.tok (f + 1) (a ++ r) = a :: Byt.tok f r := by
 cases a with
 | nil => exact absurd rfl hne
 | cons c a =>
  have hre := rowEnd_app (c :: a) r ha hr
  simp only [List.cons_append] at hre |-
  simp only [Byt.tok]
  rw [if_neg (not35 c (ha c (by simp))), if_pos (by rw [hre]; simp), hre, <- List.cons_append, List.take_left, List.drop_left]
theorem tok_blank (f : Nat) (r : List UInt8) : Byt.tok (f + 1) (32 :: r) = Byt.tok f r := rfl
theorem tok_comma (f : Nat) (r : List UInt8) : Byt.tok (f + 1) (44 :: r) = [44] :: Byt.tok f r := rfl
theorem tok_open (f : Nat) (r : List UInt8) : Byt.tok (f + 1) (40 :: r) = [40] :: Byt.tok f r := rfl
theorem tok_shut (f : Nat) (r : List UInt8) : Byt.tok (f + 1) (41 :: r) = [41] :: Byt.tok f r := rfl
theorem dig_inn (c : UInt8) (h : Byt.dig c = true) : Byt.inn c = true := by unfold Byt.inn Byt.nmc; rw [h]; simp
theorem itoa_inn (v : Int) : ∀ c ∈ Lib.itoa v, Byt.inn c = true := by
 by_cases h : v < 0
 . obtain ⟨n, rfl⟩ : ∃ n : Nat, v = -(n : Int) := ⟨v.natAbs, by omega⟩
   rw [Lib.itoa_neg n (by omega)]
   intro c hc
   exact zq373
 . obtain ⟨n, rfl⟩ : ∃ n : Nat, v = (n : Int) := ⟨v.toNat, by omega⟩
   rw [Lib.itoa_nonneg]
   exact fun c hc => dig_inn c (dec_all n c hc)
theorem itoa_ne (v : Int) : Lib.itoa v ≠ [] := by
 by_cases h : v < 0
 . obtain ⟨n, rfl⟩ : ∃ n : Nat, v = -(n : Int) := ⟨v.natAbs, by omega⟩
   rw [Lib.itoa_neg n (by omega)]; simp
 . obtain ⟨n, rfl⟩ : ∃ n : Nat, v = (n : Int) := ⟨v.toNat, by omega⟩
   rw [Lib.itoa_nonneg]; have := dec_ne n; intro e; rw [e] at this; simp at this
namespace Byt
def opT (c : Nat) (i : Ins) : List UInt8 :=
 if c = 100 then regName i.rd.toNat else if c = 115 then regName i.rs1.toNat else if c = 116 then regName i.rs2.toNat else if c = 117 then Lib.itoa i.rs1
 else if c = 109 then Lib.itoa i.im ++ 40 :: (regName i.rs1.toNat ++ [41]) else Lib.itoa i.im
def sepT : List Nat -> Bool -> Ins -> List UInt8
 | [], _, _ => []
 | c :: cs, m, i => (if m then [44, 32] else [32]) ++ (opT c i ++ sepT cs true i)
def opK (c : Nat) (i : Ins) : List (List UInt8) :=
 if c = 100 then [regName i.rd.toNat] else if c = 115 then [regName i.rs1.toNat] else if c = 116 then [regName i.rs2.toNat] else if c = 117 then [Lib.itoa i.rs1]
 else if c = 109 then [Lib.itoa i.im, [40], regName i.rs1.toNat, [41]] else [Lib.itoa i.im]
def sepK : List Nat -> Bool -> Ins -> List (List UInt8)
 | [], _, _ => []
 | c :: cs, m, i => (if m then [[44]] else []) ++ (opK c i ++ sepK cs true i)
def fill (j i : Ins) (c : Nat) : Ins :=
 if c = 100 then { j with rd := i.rd } else if c = 115 then { j with rs1 := i.rs1 } else if c = 116 then { j with rs2 := i.rs2 } else if c = 117 then { j with rs1 := i.rs1 }
 else if c = 109 then { j with im := i.im, rs1 := i.rs1 } else { j with im := i.im }
def lets : List Nat := [100, 115, 116, 109, 106, 117, 105]
end Byt
theorem reg_all : ((List.range 32).all fun n => Byt.reg (Byt.regName n) == some n) = true := by decide +kernel
theorem reg_name (n : Nat) (h : n < 32) : Byt.reg (Byt.regName n) = some n := by
 have := List.all_eq_true.1 reg_all n (by simpa using h)
 simpa using this
theorem reg_inn (n : Nat) : ∀ c ∈ Byt.regName n, Byt.inn c = true := by
 intro c hc
 unfold Byt.regName at hc
 exact zq373
theorem tok_row' (f : Nat) (a r : List UInt8) (hne : a ≠ []) (ha : ∀ c ∈ a, Byt.inn c = true) (hr : Byt.rowEnd r = 0) (T : List (List UInt8)) (h : ∀ f, r.length <= f -> Byt.tok f r = T) (hf : (a ++ r).length <= f) : Byt.tok f (a ++ r) = a :: T := by
 have hl : 1 <= a.length := by
  cases a with
  | nil => exact absurd rfl hne
  | cons => simp
 rw [List.length_append] at hf
 obtain ⟨g, rfl⟩ : ∃ g, f = g + 1 := ⟨f - 1, by omega⟩
 rw [tok_row g a r hne ha hr, h g (by omega)]
theorem rowEnd_sep (cs : List Nat) (m : Bool) (i : Ins) : Byt.rowEnd (Byt.sepT cs m i) = 0 := by
 cases cs with
 | nil => rfl
 | cons c cs => cases m <;> rfl
theorem tok_op (c : Nat) (i : Ins) (r : List UInt8) (hr : Byt.rowEnd r = 0) (T : List (List UInt8)) (h : ∀ f, r.length <= f -> Byt.tok f r = T) : ∀ f, (Byt.opT c i ++ r).length <= f -> Byt.tok f (Byt.opT c i ++ r) = Byt.opK c i ++ T := by
 intro f hf
 have hreg : ∀ n, (Byt.regName n ++ r).length <= f -> Byt.tok f (Byt.regName n ++ r) = Byt.regName n :: T := fun n hf => tok_row' f _ r (by simp [Byt.regName]) (reg_inn n) hr T h hf
 have hnum : ∀ v, (Lib.itoa v ++ r).length <= f -> Byt.tok f (Lib.itoa v ++ r) = Lib.itoa v :: T := fun v hf => tok_row' f _ r (itoa_ne v) (itoa_inn v) hr T h hf
 unfold Byt.opT at hf |-
 unfold Byt.opK
 by_cases c1 : c = 100
 . simp only [if_pos c1] at hf |-; exact hreg _ hf
 simp only [if_neg c1] at hf |-
 by_cases c2 : c = 115
 . simp only [if_pos c2] at hf |-; exact hreg _ hf
 simp only [if_neg c2] at hf |-
 by_cases c3 : c = 116
 . simp only [if_pos c3] at hf |-; exact hreg _ hf
 simp only [if_neg c3] at hf |-
 by_cases c4 : c = 117
 . simp only [if_pos c4] at hf |-; exact hnum _ hf
 simp only [if_neg c4] at hf |-
 by_cases c5 : c = 109
 . simp only [if_pos c5] at hf |-
   rw [List.append_assoc] at hf |-
   refine tok_row' f _ _ (itoa_ne _) (itoa_inn _) rfl ([40] :: Byt.regName i.rs1.toNat :: [41] :: T) ?_ hf
   intro g hg
   obtain ⟨g, rfl⟩ : ∃ k, g = k + 1 := ⟨g - 1, by simp at hg; omega⟩
   simp only [List.cons_append, List.append_assoc] at hg |-
   rw [tok_open]
   congr 1
   refine tok_row' g _ _ (by simp [Byt.regName]) (reg_inn _) rfl ([41] :: T) ?_ (by simpa using hg)
   intro k hk
   obtain ⟨k, rfl⟩ : ∃ j, k = j + 1 := ⟨k - 1, by simp at hk; omega⟩
   rw [tok_shut, List.nil_append, h k (by simpa using hk)]
 . simp only [if_neg c5] at hf |-; exact hnum _ hf
theorem tok_sep : ∀ (cs : List Nat) (m : Bool) (i : Ins) (f : Nat), (Byt.sepT cs m i).length <= f -> Byt.tok f (Byt.sepT cs m i) = Byt.sepK cs m i
 | [], m, i, f, _ => by cases f <;> rfl
 | c :: cs, m, i, f, hf => by
  have ih := tok_sep cs true i
  have h1 := tok_op c i (Byt.sepT cs true i) (rowEnd_sep cs true i) _ ih
  cases m with
  | true =>
   simp only [Byt.sepT, Byt.sepK, if_true, List.cons_append, List.nil_append, List.length_cons] at hf |-
   obtain ⟨g, rfl⟩ : ∃ g, f = g + 1 + 1 := ⟨f - 2, by omega⟩
   rw [tok_comma, tok_blank, h1 g (by omega)]
  | false =>
   simp only [Byt.sepT, Byt.sepK, if_false, Bool.false_eq_true, List.cons_append, List.nil_append, List.length_cons] at hf |-
   obtain ⟨g, rfl⟩ : ∃ g, f = g + 1 := ⟨f - 1, by omega⟩
   rw [tok_blank, h1 g (by omega)]
theorem tok_line (nm : List UInt8) (hne : nm ≠ []) (hn : ∀ c ∈ nm, Byt.inn c = true) (cs : List Nat) (i : Ins) (f : Nat) (hf : (nm ++ Byt.sepT cs false i).length <= f) : Byt.tok f (nm ++ Byt.sepT cs false i) = nm :: Byt.sepK cs false i :=
 tok_row' f nm _ hne hn (rowEnd_sep cs false i) _ (fun g hg => tok_sep cs false i g hg) hf
structure Tame (i : Ins) : Prop where
 d0 : 0 <= i.rd
 d1 : i.rd < 32
 s0 : 0 <= i.rs1
 s1 : i.rs1 < 32
 t0 : 0 <= i.rs2
 t1 : i.rs2 < 32
 i0 : -10000000000 < i.im
 i1 : i.im < 10000000000
theorem number_name (v : Int) (h0 : -10000000000 < v) (h1 : v < 10000000000) : Byt.isName (Lib.itoa v) = false := by
 by_cases h : v < 0
 . obtain ⟨n, rfl⟩ : ∃ n : Nat, v = -(n : Int) := ⟨v.natAbs, by omega⟩
   rw [Lib.itoa_neg n (by omega)]
   simp only [Byt.isName, List.all_cons]
   rw [show Byt.nmc 45 = false by decide]; simp
 . obtain ⟨n, rfl⟩ : ∃ n : Nat, v = (n : Int) := ⟨v.toNat, by omega⟩
   rw [Lib.itoa_nonneg]
   have h1 := dec_ne n
   have h2 := dec_all n
   cases hd : Lib.decDigits n with
   | nil => rfl
   | cons c l =>
    rw [hd] at h2
    simp only [Byt.isName]
    rw [h2 c (by simp)]; rfl
theorem opd_print (i j : Ins) (hi : Tame i) (g : List UInt8) (c : Nat) (hc : c ∈ Byt.lets) (r : List (List UInt8)) : Byt.opdP j g c (Byt.opK c i ++ r) = some (Byt.fill j i c, g) := by
 have hd := reg_name i.rd.toNat (by have := hi.d0; have := hi.d1; omega)
 have hs := reg_name i.rs1.toNat (by have := hi.s0; have := hi.s1; omega)
 have ht := reg_name i.rs2.toNat (by have := hi.t0; have := hi.t1; omega)
 have hn := number_itoa i.im hi.i0 hi.i1
 have hu := number_itoa i.rs1 (by have := hi.s0; omega) (by have := hi.s1; omega)
 have hm := number_name i.im hi.i0 hi.i1
 have e1 : ((i.rd.toNat : Nat) : Int) = i.rd := by have := hi.d0; omega
 have e2 : ((i.rs1.toNat : Nat) : Int) = i.rs1 := by have := hi.s0; omega
 have e3 : ((i.rs2.toNat : Nat) : Int) = i.rs2 := by have := hi.t0; omega
 simp only [Byt.lets, List.mem_cons, List.not_mem_nil, or_false] at hc
 rcases hc with rfl | rfl | rfl | rfl | rfl | rfl | rfl
 . simp [Byt.opdP, Byt.opK, Byt.opdR, Byt.fill, hd, e1]
 . simp [Byt.opdP, Byt.opK, Byt.opdR, Byt.fill, hs, e2]
 . simp [Byt.opdP, Byt.opK, Byt.opdR, Byt.fill, ht, e3]
 . simp [Byt.opdP, Byt.opK, Byt.opdM, Byt.fill, hs, hn, e2]
 . simp [Byt.opdP, Byt.opK, Byt.opdN, Byt.fill, hn, hm]
 . simp [Byt.opdP, Byt.opK, Byt.opdN, Byt.fill, hu]
 . simp [Byt.opdP, Byt.opK, Byt.opdN, Byt.fill, hn]
theorem opK_len (c : Nat) (i : Ins) : (Byt.opK c i).length = Byt.cnt c := by
 unfold Byt.opK Byt.cnt
 repeat (first | rfl | (split <;> first | rfl | (subst_vars; rfl) | skip))
theorem ops_print : ∀ (cs : List Nat) (m : Bool) (i j : Ins) (g : List UInt8), Tame i -> (∀ c ∈ cs, c ∈ Byt.lets) -> Byt.opsP cs m j g (Byt.sepK cs m i) = some (cs.foldl (fun j c => Byt.fill j i c) j, g)
 | [], m, i, j, g, _, _ => rfl
 | c :: cs, m, i, j, g, hi, hc => by
  have h1 := opd_print i j hi g c (hc c (by simp)) (Byt.sepK cs true i)
  have ih := ops_print cs true i (Byt.fill j i c) g hi (fun d hd => hc d (by simp [hd]))
  have hl := opK_len c i
  cases m with
  | true =>
   simp only [Byt.opsP, Byt.sepK, if_true]
   rw [if_neg (by simp)]
   simp only [List.singleton_append, List.drop_succ_cons, List.drop_zero]
   rw [h1]
   simp only [List.foldl_cons]
   rw [show 1 + Byt.cnt c = Byt.cnt c + 1 by omega, List.drop_succ_cons, <- hl, List.drop_left, ih]
  | false =>
   simp only [Byt.opsP, Byt.sepK, if_false, Bool.false_eq_true, List.nil_append, Nat.zero_add, List.drop_zero, false_and]
   rw [h1]
   simp only [List.foldl_cons]
   rw [<- hl, List.drop_left, ih]
theorem tab_more {P : Program} {w w' : World} {name : String} {k : IntKind} {zs : List Int} (h : Lib.TabIs P w name k zs) (hb : Below w.heap.size w w') : Lib.TabIs P w' name k zs := by
 unfold Lib.TabIs World.var? at h |-
 cases hg : P.globalNamed name with
 | none => rw [hg] at h; simp at h
 | some g =>
  rw [hg] at h
  simp only [Option.bind_some] at h |-
  have hlt : g < w.heap.size := by
   refine Nat.lt_of_not_le fun hle => ?_
   rw [Array.getElem?_eq_none hle] at h; simp at h
  rw [hb.block g hlt]; exact h
theorem grow_below (w : World) (k : Nat) (os : Array Obj) : Below w.heap.size w (Go.Sort.grow (w.drewN k) os) := by
 have h1 : Below w.heap.size w (w.drewN k) := ⟨rfl, rfl, rfl, Nat.le_refl _, fun _ _ => rfl⟩
 refine h1.trans ⟨rfl, rfl, rfl, by unfold Go.Sort.grow; simp, fun j hj => ?_⟩
 show ((w.drewN k).heap ++ os)[j]? = (w.drewN k).heap[j]?
 exact Array.getElem?_append_left hj
def Tb (w : World) : Prop := Lib.TabIs prog w "internal/strconv.uint64pow10" .u64 Lib.pow10Tab
theorem Tb.more {w w' : World} (h : Tb w) (hb : Below w.heap.size w w') : Tb w' := tab_more h hb
theorem a_itoa (v : Int) (h0 : -1099511627776 <= v) (h1 : v <= 1099511627776) (w : World) (ht : Tb w) :
 CB 220 #[.int .i64 v] (Byt.strV (Lib.itoa v)) w := by
 refine (Tryz.strconv_Itoa v (by omega) (by omega) w ht).mono ?_
 rintro e w' ⟨rfl, k, os, rfl⟩
 exact ⟨rfl, grow_below _ _ _⟩
theorem itoa_len (v : Int) (h0 : -1099511627776 <= v) (h1 : v <= 1099511627776) : (Lib.itoa v).length <= 21 := Lib.itoa_length_le v (by omega) (by omega)
theorem regName_len (n : Nat) (h : n < 100) : (Byt.regName n).length <= 11 := by
 have hlen := List.all_eq_true.1 names_short n (by simpa using h)
 rw [decide_eq_true_eq] at hlen
 simp only [Byt.regName, List.length_cons]; omega
theorem a_operandText (c : Nat) (hc : c = 100 \/ c = 115 \/ c = 116 \/ c = 109 \/ c = 106 \/ c = 117 \/ c = 105) (i : Ins) (hi : Tame i) (w : World) (ht : Tb w) :
 CB 223 #[.int .u8 c, insV i] (Byt.strV (Byt.opT c i)) w := by
 obtain ⟨rd, hrd⟩ : ∃ n : Nat, i.rd = n := ⟨i.rd.toNat, by have := hi.d0; omega⟩
 obtain ⟨rs1, hrs1⟩ : ∃ n : Nat, i.rs1 = n := ⟨i.rs1.toNat, by have := hi.s0; omega⟩
 obtain ⟨rs2, hrs2⟩ : ∃ n : Nat, i.rs2 = n := ⟨i.rs2.toNat, by have := hi.t0; omega⟩
 have b0 : rd < 32 := by have := hi.d1; omega
 have b1 : rs1 < 32 := by have := hi.s1; omega
 have b2 : rs2 < 32 := by have := hi.t1; omega
 have b3 := hi.i0
 have b4 := hi.i1
 clear hi
 obtain ⟨op, d, s, t, im, ln⟩ := i
 simp only at hrd hrs1 hrs2 b3 b4
 subst hrd hrs1 hrs2
 unfold insV Byt.opT
 simp only [Int.toNat_natCast]
 have hbw : ∀ o, Below w.heap.size w (w.alloc o) := fun o => (Below.refl _ _).alloc (Nat.le_refl _) _
 have HT : Hid (∀ o, Tb (w.alloc o)) := fun o => ht.more (hbw o)
 rcases hc with rfl | rfl | rfl | rfl | rfl | rfl | rfl
 . simp only [if_true]
   obtain ⟨X, hX⟩ := zn1 (Byt.strV (Byt.regName rd))
   have hr := fun w => a_registerName rd (by omega) w
   exact zq374
 . rw [if_neg (by decide), if_pos rfl]
   obtain ⟨X, hX⟩ := zn1 (Byt.strV (Byt.regName rs1))
   have hr := fun w => a_registerName rs1 (by omega) w
   exact zq374
 . rw [if_neg (by decide), if_neg (by decide), if_pos rfl]
   obtain ⟨X, hX⟩ := zn1 (Byt.strV (Byt.regName rs2))
   have hr := fun w => a_registerName rs2 (by omega) w
   exact zq374
 . rw [if_neg (by decide), if_neg (by decide), if_neg (by decide), if_neg (by decide), if_pos rfl]
   obtain ⟨X, hX⟩ := zn1 (⟨(Byt.regName rs1).toArray⟩ : ByteArray)
   obtain ⟨Y, hY⟩ := zn1 (⟨(Lib.itoa im).toArray⟩ : ByteArray)
   obtain ⟨Z1, hZ1⟩ := zn1 (⟨(Lib.itoa im ++ [40]).toArray⟩ : ByteArray)
   obtain ⟨Z2, hZ2⟩ := zn1 (⟨((Lib.itoa im ++ [40]) ++ Byt.regName rs1).toArray⟩ : ByteArray)
   obtain ⟨Z3, hZ3⟩ := zn1 (⟨(((Lib.itoa im ++ [40]) ++ Byt.regName rs1) ++ [41]).toArray⟩ : ByteArray)
   have l1 := itoa_len im (by omega) (by omega)
   have l2 := regName_len rs1 (by omega)
   have a1 : ∀ w, (Op.stringOp .add Y ⟨#[40]⟩).run prog w = .ok (.string Z1) w := fun w => add_str (a := Y) (b := ⟨#[40]⟩) (c := Z1) (by rw [hY, hZ1]; exact mk_app _ [40]) (by rw [hY]; simp [ByteArray.size]; omega) w
   have a2 : ∀ w, (Op.stringOp .add Z1 X).run prog w = .ok (.string Z2) w := fun w => add_str (a := Z1) (b := X) (c := Z2) (by rw [hZ1, hX, hZ2]; exact mk_app _ _) (by rw [hZ1, hX]; simp [ByteArray.size]; omega) w
   have a3 : ∀ w, (Op.stringOp .add Z2 ⟨#[41]⟩).run prog w = .ok (.string Z3) w := fun w => add_str (a := Z2) (b := ⟨#[41]⟩) (c := Z3) (by rw [hZ2, hZ3]; exact mk_app _ [41]) (by rw [hZ2]; simp [ByteArray.size]; omega) w
   have hr := fun w => a_registerName rs1 (by omega) w
   rw [show Byt.strV (Byt.regName rs1) = .string X by rw [hX]; rfl] at hr
   have hn := fun w ht => a_itoa im (by omega) (by omega) w ht
   rw [show Byt.strV (Lib.itoa im) = .string Y by rw [hY]; rfl] at hn
   obtain ⟨W0, hW0⟩ := zn1 (w.alloc (.cells #[.int .i64 op, .int .i64 rd, .int .i64 rs1, .int .i64 rs2, .int .i64 im, .int .i64 ln] 53))
   have hc2 : W0.cell? ⟨w.heap.size, 2, none⟩ = some (.int .i64 rs1) := by rw [hW0]; simp
   have hl2 : w.heap.size < W0.heap.size := by rw [hW0]; simp
   have hb0 : Below w.heap.size w W0 := by rw [hW0]; exact hbw _
   have ht0 : Tb W0 := ht.more hb0
   have HNA := hide1 ((hn W0.drew (ht0.more (Below.refl _ _).drew)).mono fun e w1 h => (⟨h.1, (h.2.cell (p := ⟨w.heap.size, 2, none⟩) hl2).trans hc2, hide1 (hb0.trans ((Below.refl _ _).drew.trans (h.2.mono (Nat.le_of_lt hl2))))⟩ : _ /\ w1.cell? ⟨w.heap.size, 2, none⟩ = some (.int .i64 rs1) /\ Hid (Below w.heap.size w w1)))
   rw [hW0] at HNA
   clear hc2 hl2 hb0 ht0 hW0
   rw [show Byt.strV (Lib.itoa im ++ 40 :: (Byt.regName rs1 ++ [41])) = .string Z3 by rw [hZ3]; unfold Byt.strV; simp]
   have HR := hide1 hr
   clear hr hn hX hY hZ1 hZ2 hZ3 l1 l2 ht
   go_enter func223, ntmps223
   go_upto_region 11 with fail
   go_region_with (first | (go_at_call 306; refine (HR.out _).mono ?_; rintro e w' ⟨rfl, rfl⟩) | (go_at_call 220; with_reducible refine HNA.out.mono ?_; rintro e w1 ⟨rfl, d2, hb1⟩))
   all_goals (go_wp2; go_ret; exact ⟨rfl, hb1.out⟩)
 . exact zq375
 . rw [if_neg (by decide), if_neg (by decide), if_neg (by decide), if_pos rfl]
   obtain ⟨X, hX⟩ := zn1 (Byt.strV (Lib.itoa (rs1 : Int)))
   have hr := fun w ht => a_itoa (rs1 : Int) (by omega) (by omega) w ht
   exact zq376
 . exact zq375
theorem a_dataText (v : Int) (h0 : -1099511627776 <= v) (h1 : v <= 1099511627776) (n : Int) (w : World) (ht : Tb w) :
 CB 147 #[.int .i64 v, .int .i64 n] (Byt.strV (Byt.nmL (if n = 2 then 72 else 71) ++ 32 :: Lib.itoa v)) w := by
 obtain ⟨o, ho⟩ := zn1 (if n = 2 then 72 else 71 : Nat)
 rw [<- ho]
 have hoo : o <= 72 := by rw [ho]; split <;> omega
 obtain ⟨X, hX⟩ := zn1 (Nm.name o : ByteArray)
 obtain ⟨Y, hY⟩ := zn1 (⟨(Lib.itoa v).toArray⟩ : ByteArray)
 obtain ⟨Z1, hZ1⟩ := zn1 (⟨(Byt.nmL o ++ [32]).toArray⟩ : ByteArray)
 obtain ⟨Z2, hZ2⟩ := zn1 (⟨((Byt.nmL o ++ [32]) ++ Lib.itoa v).toArray⟩ : ByteArray)
 have l1 := itoa_len v h0 h1
 have l2 : (Byt.nmL o).length <= 20 := by have := nm_sz o hoo; unfold Byt.nmL; rw [Array.length_toList]; exact this
 have a1 : ∀ w, (Op.stringOp .add X ⟨#[32]⟩).run prog w = .ok (.string Z1) w := fun w => add_str (a := X) (b := ⟨#[32]⟩) (c := Z1) (by rw [hX, hZ1, <- mk_list (Nm.name o)]; exact mk_app _ [32]) (by rw [hX]; have := nm_sz o hoo; have h2 : (⟨#[32]⟩ : ByteArray).size = 1 := rfl; rw [h2]; omega) w
 have a2 : ∀ w, (Op.stringOp .add Z1 Y).run prog w = .ok (.string Z2) w := fun w => add_str (a := Z1) (b := Y) (c := Z2) (by rw [hZ1, hY, hZ2]; exact mk_app _ _) (by rw [hZ1, hY]; simp [ByteArray.size]; omega) w
 have hn := a_itoa v h0 h1 w ht
 rw [show Byt.strV (Lib.itoa v) = .string Y by rw [hY]; rfl] at hn
 rw [show Byt.strV (Byt.nmL o ++ 32 :: Lib.itoa v) = .string Z2 by rw [hZ2]; unfold Byt.strV; simp]
 have HN := hide1 hn
 have HX := hide1 hX
 clear hn hX hY hZ1 hZ2 l1 l2 ht hoo
 by_cases h2 : n = 2
 . rw [if_pos h2] at ho
   have h2' : (n == 2) = true := by simp [h2]
   subst ho
   have HX' : Hid (Nm.name 72 = X) := HX.out.symm
   exact zq377
 . rw [if_neg h2] at ho
   have h2' : (n == 2) = false := by simp [h2]
   subst ho
   have HX' : Hid (Nm.name 71 = X) := HX.out.symm
   exact zq377
end Go.Proofs.YtmlgonbhoknoiaaGreatDoor
