import Derived.Test.YthfofjkfbhahoaaGreatDoorYB
import Derived.Test.YthfofjkfbhahoaaGreatDoorYA
section
namespace Go.Proofs.YthfofjkfbhahoaaGreatDoor
open Go.RowKit
set_option linter.unusedSimpArgs false
def itL (l : Ln) : List Value := [.string ⟨l.nm.toArray⟩, .int .i64 l.i.op, .int .i64 l.i.op, .int .i64 l.i.rd, .int .i64 l.i.rs1, .int .i64 l.i.rs2, .int .i64 l.i.im, .int .i64 l.i.ln, .string ⟨l.tg.toArray⟩, .int .i64 l.i.ln]
def itR (E : List Ln) : List Value := E.flatMap itL
theorem itR_app (E : List Ln) (l : Ln) : itR (E ++ [l]) = itR E ++ itL l := by simp [itR]
theorem itR_get : ∀ (E : List Ln) (j : Nat) (h : j < E.length) (f : Nat), f < 10 → (itR E)[j * 10 + f]? = (itL E[j])[f]?
  | [], j, h, f, hf => by simp at h
  | l :: E, 0, h, f, hf => by
    have : itR (l :: E) = itL l ++ itR E := by simp [itR]
    rw [this, Nat.zero_mul, Nat.zero_add, List.getElem?_append_left (by simp [itL]; omega)]; rfl
  | l :: E, j + 1, h, f, hf => by
    have : itR (l :: E) = itL l ++ itR E := by simp [itR]
    have hl : (itL l).length = 10 := rfl
    rw [this, List.getElem?_append_right (by rw [hl]; omega), hl, show (j + 1) * 10 + f - 10 = j * 10 + f by omega, itR_get E j (by simpa using h) f hf]; rfl
theorem its_own {w : World} {base : Nat} {v : Value} {E : List Ln} (h : w.ownsRow base 140 10 v E.length (itR E)) (hn : v ≠ .slice none 0 0) :
    ∃ g cap, v = .slice (some ⟨g, 0, none⟩) E.length cap ∧ base ≤ g ∧ g < w.heap.size ∧ ItsAt w (some ⟨g, 0, none⟩) E := by
  rcases h.2 with ⟨hv, _⟩ | ⟨g, cap, cur, rfl, hb, hg, hrest⟩
  · exact absurd hv hn
  · refine ⟨g, cap, rfl, hb, (Array.getElem?_eq_some_iff.1 hg).1, .inr ⟨g, rfl, fun j hj => ?_⟩⟩
    have hc : ∀ f, f < 10 → w.cell? ⟨g, j * 10 + f, none⟩ = (itL E[j])[f]? := fun f hf => by rw [h.cellAt (j * 10 + f) (by omega), itR_get E j hj f hf]
    exact ⟨hc 0 (by omega), hc 1 (by omega), hc 2 (by omega), hc 3 (by omega), hc 4 (by omega), hc 5 (by omega), hc 6 (by omega), hc 7 (by omega), hc 8 (by omega), hc 9 (by omega)⟩
theorem segs_len : ∀ (l pre : List UInt8), (Byt.segs pre l).length = 1 + Byt.nls l
  | [], pre => by simp [Byt.segs, Byt.nls]
  | c :: l, pre => by
    simp only [Byt.segs, Byt.nls]
    split
    · rw [List.length_cons, segs_len l []]; omega
    · rw [segs_len l]; omega
theorem segs_short : ∀ (l pre : List UInt8), ∀ t ∈ Byt.segs pre l, t.length ≤ pre.length + l.length
  | [], pre, t, h => by simp only [Byt.segs, List.mem_singleton] at h; rw [h]; omega
  | c :: l, pre, t, h => by
    simp only [Byt.segs] at h
    split at h
    · rcases List.mem_cons.1 h with rfl | h
      · omega
      · have := segs_short l [] t h; simp only [List.length_cons, List.length_nil] at this ⊢; omega
    · have := segs_short l _ t h; simp only [List.length_append, List.length_cons, List.length_nil] at this ⊢; omega
/-- the rest of the work, once the lines were read -/
def Byt.fin (q : List Ln × Int × Nat) : List UInt8 × Int × Nat := if q.2.1 = 0 then Byt.lay q.1 q.1 0 [] else ([], q.2.1, q.2.2)
def Byt.asmQ (E : List Ln) (ts : List (List UInt8)) : List UInt8 × Int × Nat := Byt.fin (Byt.readAll E ts)
theorem asmQ_nil (E : List Ln) : Byt.asmQ E [] = Byt.lay E E 0 [] := by
  show Byt.fin (E, 0, 0) = _
  unfold Byt.fin; exact if_pos rfl
theorem asmQ_yes {E : List Ln} {t : List UInt8} {ts : List (List UInt8)} (h : (Byt.readLn (Byt.tok t.length t) E).1 = 0) : Byt.asmQ E (t :: ts) = Byt.asmQ (E ++ [(Byt.readLn (Byt.tok t.length t) E).2]) ts := by
  have e : Byt.readAll E (t :: ts) = Byt.readAll (E ++ [(Byt.readLn (Byt.tok t.length t) E).2]) ts := by rw [Byt.readAll, if_pos h]
  unfold Byt.asmQ; rw [e]
theorem asmQ_no {E : List Ln} {t : List UInt8} {ts : List (List UInt8)} (h : ¬ (Byt.readLn (Byt.tok t.length t) E).1 = 0) : Byt.asmQ E (t :: ts) = ([], (Byt.readLn (Byt.tok t.length t) E).1, E.length + 1) := by
  have e : Byt.readAll E (t :: ts) = ([], (Byt.readLn (Byt.tok t.length t) E).1, E.length + 1) := by rw [Byt.readAll, if_neg h]
  unfold Byt.asmQ; rw [e]; unfold Byt.fin; exact if_neg h
theorem tidy_lok {E : List Ln} (h : ∀ l ∈ E, Lok l) : Tidy E := fun l hl => by
  rcases (h l hl).way with ⟨_, h1, _⟩ | ⟨_, _, h1⟩ | ⟨_, h1, _⟩ | ⟨_, h1, _⟩ <;> omega
set_option maxHeartbeats 8000000 in
theorem u_Assemble (s : ByteArray) (w : World) :
    Calls Tryz.prog 74 #[.string s] w fun e w' => e = .returned (.tuple #[Byt.strV (Byt.asmD s.data.toList).1, .int .i64 (Byt.asmD s.data.toList).2.1, .int .i64 (Byt.asmD s.data.toList).2.2]) ∧ Below w.heap.size w w' := by
  obtain ⟨R, hR⟩ : ∃ R, R = Byt.asmD s.data.toList := ⟨_, rfl⟩
  rw [← hR]
  unfold Byt.asmD at hR
  have hsz : s.data.toList.length = s.size := by rw [Array.length_toList]; rfl
  rw [hsz] at hR
  by_cases h1 : 4096 < s.size
  · rw [if_pos h1] at hR
    have h1' : decide (4096 < (s.size : Int)) = true := by simp; omega
    have HR := hide1 hR
    clear hR
    go_enter Tryz.func74, Tryz.ntmps74
    go_wp2_with fail
    go_ret3
    exact ⟨by rw [HR.out]; rfl, Below.refl _ _⟩
  rw [if_neg h1] at hR
  have h1' : decide (4096 < (s.size : Int)) = false := by simp; omega
  have hln := u_lines s (by omega) w
  have hsl := segs_len s.data.toList []
  have hss := segs_short s.data.toList []
  obtain ⟨K, hK⟩ : ∃ K, K = Byt.segs [] s.data.toList := ⟨_, rfl⟩
  rw [← hK] at hln hsl hss hR
  rw [← hsl] at hR
  have HLN := hide1 (hln.mono fun e w1 h => (by
    obtain ⟨v, he, hn, hown, hb⟩ := h
    obtain ⟨b, cap, rfl, h1, h2, h3⟩ := StrsAt.of_row hown hn
    exact ⟨b, cap, he, h2, hide1 h3, hb⟩ : ∃ b cap, e = .returned (.slice (some ⟨b, 0, none⟩) K.length cap) ∧ b < w1.heap.size ∧ Hid (StrsAt w1 b 0 K) ∧ Below w.heap.size w w1))
  have HSS : Hid (∀ t ∈ K, t.length ≤ 4096) := hide1 (fun t ht => by have := hss t ht; rw [hsz] at this; simp at this; omega)
  have hKl : K.length ≤ 4097 := by rw [hsl]; have := Byt.nls_le s.data.toList; omega
  clear hln hK hsl hss hsz
  by_cases h2 : 256 < K.length
  · rw [if_pos h2] at hR
    have h2' : decide (256 < (K.length : Int)) = true := by simp; omega
    have HR := hide1 hR
    clear hR
    go_enter Tryz.func74, Tryz.ntmps74
    go_wp2_with fail
    refine HLN.out.mono ?_
    rintro e w1 ⟨b, cap, rfl, hb, hst, hb1⟩
    go_wp2_with fail
    go_ret3
    exact ⟨by rw [HR.out]; rfl, hb1⟩
  rw [if_neg h2] at hR
  have h2' : decide (256 < (K.length : Int)) = false := by simp; omega
  have HR : Hid (R = Byt.asmQ [] K) := hR
  clear hR
  have hmk : ∀ w, (Instr.buildSlice 138 0 #[]).run Tryz.prog w = .ok (.slice (some ⟨w.heap.size, 0, none⟩) 0 0) (w.alloc (.cells #[] 140)) := fun _ => by kernel_rfl
  have hinfo : (Tryz.prog.info? 140).map (fun i => (i.zero, i.size, i.bytes)) = some (some (itA ⟨#[]⟩ ins0 ⟨#[]⟩), 10, 96) := by kernel_rfl
  obtain ⟨i0, hi, hz0, hz1, hz2⟩ := info_parts hinfo
  clear hinfo
  go_enter Tryz.func74, Tryz.ntmps74
  go_wp2_with fail
  refine HLN.out.mono ?_
  rintro e w1 ⟨b, cap, rfl, hbb, hst, hb1⟩
  have HB1 := hide1 hb1
  have hw1s := hb1.size
  clear HLN hb1
  go_wp2_with fail
  go_loopw [6, 7] (fun v k7 wr => ∃ (k : Nat) (E : List Ln), k ≤ K.length ∧ Hid (E.length = k) ∧ k7 = .int .i64 k ∧ v ≠ .slice none 0 0 ∧ Hid (wr.ownsRow w1.heap.size 140 10 v E.length (itR E)) ∧ Hid (Below w1.heap.size w1 wr) ∧ Hid (∀ l ∈ E, Lok l) ∧ Hid (R = Byt.asmQ E (K.drop k))) (fun _ k7 _ => K.length - (intOf k7).toNat)
  case atStart => exact ⟨0, [], by omega, hide1 rfl, rfl, by simp, hide1 (World.ownsRow_made w1 _ 0 (Nat.le_refl _) (by unfold maxLen; omega) rfl), hide1 ((Below.refl _ _).alloc (Nat.le_refl _) _), hide1 (by simp), HR⟩
  case round =>
    obtain ⟨k, E, hk, hEk, rfl, hnn, hown, hb, hlok, hh⟩ := hrel
    clear HR hmk
    have hEl : E.length ≤ 5000 := by have := hEk.out; omega
    obtain ⟨g, capg, rfl, hg0, hg1, hits⟩ := its_own hown.out hnn
    have HITS := hide1 hits
    clear hits
    have hbs := hb.out.size
    by_cases hlt : k < K.length
    · have hst1 := StrsAt.more hst hbb hb.out
      have c0 := hst1.out k hlt
      obtain ⟨X, hX⟩ : ∃ X : ByteArray, X = ⟨K[k].toArray⟩ := ⟨_, rfl⟩
      have d0 : wr.cell? ⟨b, k, none⟩ = some (.string X) := by rw [← Nat.zero_add k, c0, hX]; rfl
      have hXl : X.data.toList = K[k] := by rw [hX]
      have hXs : X.size = K[k].length := by rw [← hXl, Array.length_toList]; rfl
      have hX4 : X.size ≤ 4096 := by rw [hXs]; exact HSS.out _ (List.getElem_mem hlt)
      have hprs := u_parse (some ⟨g, 0, none⟩) capg E (by omega) X hX4 wr HITS (hide1 (fun a h => by simp only [Option.some.injEq] at h; rw [← h]; exact hg1))
      have hdr : K.drop k = K[k] :: K.drop (k + 1) := List.drop_eq_getElem_cons hlt
      rw [hdr] at hh
      rw [hXs, hXl] at hprs
      obtain ⟨Z, hZ⟩ : ∃ Z, Z = Byt.readLn (Byt.tok K[k].length K[k]) E := ⟨_, rfl⟩
      have hZok : Lok Z.2 := by rw [hZ]; exact readLn_lok _ _
      rw [← hZ] at hprs
      have HPRS := hide1 hprs
      have HZ := hide1 hZ
      have HZOK := hide1 hZok
      clear hprs hZ hZok hdr hX hXl hXs hX4 c0 hst1
      obtain ⟨er, l⟩ := Z
      go_wp2_with fail
      refine HPRS.out.mono ?_
      rintro e w2 ⟨⟨NM, j, TG, rfl, hfin⟩, hb2⟩
      have HB2 := hide1 (hb.out.trans (hb2.mono hb.out.size))
      have HO2 := hide1 (own_more hown.out hb2)
      have hsz2 := HB2.out.size
      unfold itA
      clear HPRS hb2 hb hown d0 HITS
      by_cases her : er = 0
      · have her' : (er != 0) = false := by simp [her]
        have hgo : Hid (R = Byt.asmQ (E ++ [l]) (K.drop (k + 1))) := by
          show R = _
          have e1 : (Byt.readLn (Byt.tok K[k].length K[k]) E).1 = 0 := by rw [← HZ.out]; exact her
          have e2 : (Byt.readLn (Byt.tok K[k].length K[k]) E).2 = l := by rw [← HZ.out]
          rw [hh.out, asmQ_yes e1, e2]
        have hlok2 : Hid (∀ x ∈ E ++ [l], Lok x) := hide1 (fun x hx => by
          rcases List.mem_append.1 hx with hx | hx
          · exact hlok.out x hx
          · rw [List.mem_singleton] at hx; rw [hx]; exact HZOK.out)
        have hfx := hfin.out her
        have HFX := hide1 hfx
        have hrow : ∀ j, (Value.slice (some ⟨g, 0, none⟩) E.length capg).ownBlock = some j → w1.heap.size ≤ j := fun j hj => by
          simp only [Value.ownBlock, Option.some.injEq] at hj
          omega
        have HROW := hide1 hrow
        clear hrow hfx hfin hh her HZ HZOK hlok
        go_wp2_with (at_builtin; refine wpList_append_own _ rfl (.tmp 43) (.tmp 45) 138 rfl w1.heap.size 140 i0 (itA ⟨#[]⟩ ins0 ⟨#[]⟩) 10 96 Tryz.underlying138 hi hz0 hz1 hz2 rfl (by decide) _ _ _ rfl ((HO2.out.alloc _).alloc _) ⟨_, 0, none⟩ 1 1 [.string NM, .int .i64 j.op, .int .i64 j.op, .int .i64 j.rd, .int .i64 j.rs1, .int .i64 j.rs2, .int .i64 j.im, .int .i64 j.ln, .string TG, .int .i64 j.ln] rfl rfl ?c1 ?c2 ?c3 ?c4 ?c5 ?_)
        case c1 =>
          intro q u hq
          match q, hq with
          | 0, hq => simp at hq; subst hq; simp [Addr.add]
          | 1, hq => simp at hq; subst hq; simp [Addr.add]
          | 2, hq => simp at hq; subst hq; simp [Addr.add]
          | 3, hq => simp at hq; subst hq; simp [Addr.add]
          | 4, hq => simp at hq; subst hq; simp [Addr.add]
          | 5, hq => simp at hq; subst hq; simp [Addr.add]
          | 6, hq => simp at hq; subst hq; simp [Addr.add]
          | 7, hq => simp at hq; subst hq; simp [Addr.add]
          | 8, hq => simp at hq; subst hq; simp [Addr.add]
          | 9, hq => simp at hq; subst hq; simp [Addr.add]
          | q + 10, hq => simp at hq
        case c2 => intro u hu; simp at hu; rcases hu with rfl | rfl | rfl | rfl | rfl | rfl | rfl | rfl | rfl | rfl <;> rfl
        case c3 => unfold maxLen; omega
        case c4 => omega
        case c5 => simp; omega
        intro v' w3 hown' hgrow hnil
        have hnn' : v' ≠ .slice none 0 0 := fun h => hnil h
        have hrow2 := hide1 (((HB2.out.alloc (by omega) _).alloc (by simp; omega) _).grown hgrow (by simp; omega) HROW.out)
        clear hnil hgrow HO2 HB2
        obtain ⟨x1, x2, x3⟩ := HFX.out
        have hown2 : Hid (w3.ownsRow w1.heap.size 140 10 v' (E ++ [l]).length (itR (E ++ [l]))) := by
          show w3.ownsRow w1.heap.size 140 10 v' (E ++ [l]).length (itR (E ++ [l]))
          rw [itR_app, List.length_append]
          rw [x1, x2, x3] at hown'
          exact hown'
        clear hown' x1 x2 x3 HFX
        go_wp2_with fail
        go_roundw
        case rel =>
          first
            | exact ⟨k + 1, E ++ [l], by omega, hide1 (by have := hEk.out; simp; omega), by go_num, hnn', hown2, hrow2, hlok2, hgo⟩
            | ((repeat apply Exists.intro); exact ⟨⟨k + 1, E ++ [l], by omega, hide1 (by have := hEk.out; simp; omega), by go_num, hnn', hown2, hrow2, hlok2, hgo⟩, rfl⟩)
        case measure => simp [intOf]; omega
      · have her' : (er != 0) = true := by simp [her]
        have hgo : Hid (R = ([], er, k + 1)) := by
          show R = _
          have e1 : ¬ (Byt.readLn (Byt.tok K[k].length K[k]) E).1 = 0 := by rw [← HZ.out]; exact her
          have e2 : (Byt.readLn (Byt.tok K[k].length K[k]) E).1 = er := by rw [← HZ.out]
          rw [hh.out, asmQ_no e1, e2, hEk.out]
        clear hfin hh her HZ HZOK hlok
        go_wp2_with fail
        go_ret3
        exact ⟨by rw [hgo.out]; rfl, (HB1.out.trans (HB2.out.mono hw1s)).alloc (by omega) _⟩
    · have hlt' : decide ((k : Int) < (K.length : Int)) = false := by simp; omega
      have HR2 : Hid (R = Byt.lay E (E.drop 0) 0 (⟨#[]⟩ : ByteArray).data.toList) := by
        show R = _
        rw [hh.out, List.drop_eq_nil_of_le (by omega), asmQ_nil]; rfl
      rename World => wo
      have HTD := hide1 (tidy_lok hlok.out)
      clear hh hnn hown hst HSS hi hz0 hz1 hz2
      go_wp2_with fail
      go_loopw [10, 11] (fun v k6 wx => ∃ (k : Nat) (X : ByteArray), k ≤ E.length ∧ X.size ≤ 4 * k ∧ v = .string X ∧ k6 = .int .i64 k ∧ Hid (X.data.toList.length = (Byt.place E k).toNat) ∧ Hid (Below wo.heap.size wo wx) ∧ Hid (R = Byt.lay E (E.drop k) k X.data.toList)) (fun _ k6 _ => E.length - (intOf k6).toNat)
      case atStart => exact ⟨0, ⟨#[]⟩, by omega, by decide, rfl, rfl, hide1 (by cases E <;> rfl), hide1 (Below.refl _ _), HR2⟩
      case round =>
        obtain ⟨n, X, hn, hXs, rfl, rfl, hXp, hbx, hh⟩ := hrel
        clear HR2
        by_cases hln : n < E.length
        · have hiw := u_word (some ⟨g, 0, none⟩) capg E hEl HTD n hln (hlok.out _ (List.getElem_mem hln)) wr (hide1 (HITS.out.below hbx.out (fun a h => by simp only [Option.some.injEq] at h; rw [← h]; exact hg1))) (hide1 (fun a h => by simp only [Option.some.injEq] at h; rw [← h]; exact Nat.lt_of_lt_of_le hg1 hbx.out.size))
          rw [lay_stp hln, hXp.out] at hh
          have hsl := stp_length (L := E) (l := E[n]) (n := (Byt.place E n).toNat)
          have hpl := place_succ E n hln
          have hpb := place_bd E n HTD.out
          have htd := HTD.out E[n] (List.getElem_mem hln)
          obtain ⟨V, hV⟩ : ∃ V, V = Byt.stp E E[n] (Byt.place E n).toNat := ⟨_, rfl⟩
          rw [← hV] at hiw hh hsl
          have HIW := hide1 hiw
          have HSL := hide1 (And.intro hsl (And.intro hpl (And.intro hpb htd)))
          clear hiw hV hsl hpl hpb htd
          obtain ⟨m, er⟩ := V
          obtain ⟨M, hM⟩ : ∃ M : ByteArray, M = ⟨m.toArray⟩ := ⟨_, rfl⟩
          have hMl : M.data.toList = m := by rw [hM]
          have HML := hide1 hMl
          clear hMl
          unfold Byt.strV at HIW
          simp only at HIW
          rw [← hM] at HIW
          have hMs : M.size = m.length := by rw [← HML.out, Array.length_toList]; rfl
          clear hM
          by_cases her : er = 0
          · have her' : (er != 0) = false := by simp [her]
            obtain ⟨hs0, hs1, hs2, hs3⟩ := HSL.out
            have hm4 : (m.length : Int) = E[n].i.ln := by rw [hs0 her]; omega
            have hMs4 : M.size ≤ 4 := by omega
            obtain ⟨C, hC⟩ : ∃ C, C = X ++ M := ⟨_, rfl⟩
            have hadd : ∀ w, (Op.stringOp .add X M).run Tryz.prog w = .ok (.string C) w := fun w => add_str (a := X) (b := M) (c := C) hC.symm (by omega) w
            have hCs : C.size ≤ 4 * (n + 1) := by rw [hC, ByteArray.size_append]; omega
            have hCl : C.data.toList = X.data.toList ++ m := by rw [hC, app_list, HML.out]
            have hCp : Hid (C.data.toList.length = (Byt.place E (n + 1)).toNat) := by
              show _ = _
              rw [hCl, List.length_append, hXp.out, hs1]; omega
            have hgo2 : Hid (R = Byt.lay E (E.drop (n + 1)) (n + 1) C.data.toList) := by
              show R = _
              rw [hh.out, if_pos her, hCl]
            clear hh hC hCl hs0 hs1 hs2 hs3 HSL hm4 her hMs hMs4 HML
            go_wp2_with fail
            refine HIW.out.mono ?_
            rintro e w4 ⟨rfl, hb4⟩
            have HB4 := hide1 (hbx.out.trans (hb4.mono hbx.out.size))
            clear HIW hb4
            go_wp2_with fail
            go_roundw
            case rel =>
              first
                | exact ⟨n + 1, C, by omega, hCs, rfl, by go_num, hCp, HB4, hgo2⟩
                | ((repeat apply Exists.intro); exact ⟨⟨n + 1, C, by omega, hCs, rfl, by go_num, hCp, HB4, hgo2⟩, rfl⟩)
            case measure => simp [intOf]; omega
          · have her' : (er != 0) = true := by simp [her]
            have hgo2 : Hid (R = ([], er, n + 1)) := by
              show R = _
              rw [hh.out, if_neg her]
            clear hh her HSL HML
            go_wp2_with fail
            refine HIW.out.mono ?_
            rintro e w4 ⟨rfl, hb4⟩
            have HB4 := hide1 (hbx.out.trans (hb4.mono hbx.out.size))
            clear HIW hb4
            go_wp2_with fail
            go_ret3
            exact ⟨by rw [hgo2.out]; rfl, HB1.out.trans ((hb.out.trans (HB4.out.mono hbs)).mono hw1s)⟩
        · have hT : Hid (R = (X.data.toList, 0, 0)) := by
            show R = _
            rw [hh.out, List.drop_eq_nil_of_le (by omega)]; rfl
          have hln' : decide ((n : Int) < (E.length : Int)) = false := by simp; omega
          clear hh
          go_wp2_with fail
          go_ret3
          exact ⟨by rw [hT.out]; unfold Byt.strV; simp only [mk_list]; rfl, HB1.out.trans ((hb.out.trans (hbx.out.mono hbs)).mono hw1s)⟩
end Go.Proofs.YthfofjkfbhahoaaGreatDoor
end
