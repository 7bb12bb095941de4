import Derived.Test.YthfofjkfbhahoaaGreatDoorXZ
import Derived.Test.YthfofjkfbhahoaaGreatDoorXT
import Derived.Test.YthfofjkfbhahoaaGreatDoorXO
import Derived.Test.YthfofjkfbhahoaaGreatDoorYA
section
namespace Go.Proofs.YthfofjkfbhahoaaGreatDoor
open Go.RowKit
set_option linter.unusedSimpArgs false
def PrsPost (Z : Int × Ln) (e : Ending) : Prop := ∃ (N : ByteArray) (j : Ins) (G : ByteArray), e = .returned (.tuple #[itA N j G, .int .i64 Z.1]) ∧ Hid (Z.1 = 0 → N = ⟨Z.2.nm.toArray⟩ ∧ j = Z.2.i ∧ G = ⟨Z.2.tg.toArray⟩)
theorem u_tokens2 (s : ByteArray) (hs : s.size ≤ 5000) (w : World) :
    Calls Tryz.prog 169 #[.string s] w fun e w' => ∃ b cap, e = .returned (.slice (some ⟨b, 0, none⟩) (Byt.tok s.size s.data.toList).length cap) ∧ (Byt.tok s.size s.data.toList).length ≤ cap ∧ b < w'.heap.size ∧ Hid (StrsAt w' b 0 (Byt.tok s.size s.data.toList)) ∧ Below w.heap.size w w' := by
  refine (u_tokens s hs w).mono ?_
  rintro e w' ⟨v, rfl, hn, hown, hb⟩
  have h2 := hown.2
  obtain ⟨b, cap, rfl, h1, h2', h3⟩ := StrsAt.of_row hown hn
  refine ⟨b, cap, rfl, ?_, h2', h3, hb⟩
  rcases h2 with ⟨hv, _⟩ | ⟨g, cap', cur, hv, _, _, hc, _⟩
  · exact absurd hv hn
  · simp only [Value.slice.injEq] at hv
    rw [hv.2.2]; exact hc
theorem wrdFrom_z (t : List UInt8) : ∀ f op, 1 ≤ op → ((Byt.wrdFrom t f op).1 = 0 ↔ (Byt.wrdFrom t f op).2 = 0)
  | 0, op, _ => by simp [Byt.wrdFrom]
  | f + 1, op, h => by
    have ih := wrdFrom_z t f (op + 1) (by omega)
    unfold Byt.wrdFrom
    split
    · simp; omega
    · split
      · simp; omega
      · exact ih
theorem wrd_z (t : List UInt8) : (Byt.wrd t).1 = 0 ↔ (Byt.wrd t).2 = 0 := by
  unfold Byt.wrd
  split
  · simp
  · split
    · simp
    · exact wrdFrom_z t 70 1 (Nat.le_refl _)
/-- what stands behind the line's name -/
structure Pz (w : World) (wb ib tb o : Nat) (L : List (List UInt8)) (N : ByteArray) (i : Ins) (wx : World) : Prop where
  st : StrsAt wx tb o L
  it : Ex wx ib N i ⟨#[]⟩
  rs : Ex wx wb ⟨#[]⟩ ⟨0, 0, 0, 0, 0, 0⟩ ⟨#[]⟩
  be : Below w.heap.size w wx
  tl : tb < wx.heap.size
  ti : tb < ib
theorem Pz.set4 {w wx : World} {wb ib tb o : Nat} {L : List (List UInt8)} {N : ByteArray} (h : Pz w wb ib tb o L N ⟨0, 0, 0, 0, 0, 0⟩ wx) (hwi : wb < ib) (hw : w.heap.size ≤ ib) (op sz : Int) : Pz w wb ib tb o L N ⟨op, 0, 0, 0, 0, sz⟩ ((((wx.setCell ⟨ib, 1, none⟩ (.int .i64 op)).setCell ⟨ib, 9, none⟩ (.int .i64 sz)).setCell ⟨ib, 2, none⟩ (.int .i64 op)).setCell ⟨ib, 7, none⟩ (.int .i64 sz)) := by
  have hb : Below ib wx ((((wx.setCell ⟨ib, 1, none⟩ (.int .i64 op)).setCell ⟨ib, 9, none⟩ (.int .i64 sz)).setCell ⟨ib, 2, none⟩ (.int .i64 op)).setCell ⟨ib, 7, none⟩ (.int .i64 sz)) := by
    repeat (first | exact Below.refl _ _ | (refine Below.setCell ?_ (by simp) _))
  exact ⟨h.st.below hb h.ti, h.it.set4 op sz, (((h.rs.set_ne (by omega)).set_ne (by omega)).set_ne (by omega)).set_ne (by omega), h.be.trans (hb.mono hw), by have := h.tl; have := hb.size; omega, h.ti⟩
theorem Pz.set0 {w wx : World} {wb ib tb o o' : Nat} {L L' : List (List UInt8)} {N : ByteArray} (h : Pz w wb ib tb o L N ⟨0, 0, 0, 0, 0, 0⟩ wx) (hwi : wb < ib) (hw : w.heap.size ≤ ib) (N' : ByteArray) (hst : ∀ W, StrsAt W tb o L → StrsAt W tb o' L') : Pz w wb ib tb o' L' N' ⟨0, 0, 0, 0, 0, 0⟩ (wx.setCell ⟨ib, 0, none⟩ (.string N')) := by
  have hb : Below ib wx (wx.setCell ⟨ib, 0, none⟩ (.string N')) := (Below.refl _ _).setCell (by simp) _
  exact ⟨hst _ (h.st.below hb h.ti), h.it.set0 N', h.rs.set_ne (by omega), h.be.trans (hb.mono hw), by have := h.tl; have := hb.size; omega, h.ti⟩
set_option maxHeartbeats 8000000 in
theorem u_parse (p : Option Addr) (cape : Nat) (E : List Ln) (hE : E.length ≤ 5000) (s : ByteArray) (hs : s.size ≤ 4096) (w : World) (he : Hid (ItsAt w p E)) (hp : Hid (∀ a, p = some a → a.block < w.heap.size)) :
    Calls Tryz.prog 121 #[.slice p E.length cape, .string s] w fun e w' => PrsPost (Byt.readLn (Byt.tok s.size s.data.toList) E) e ∧ Below w.heap.size w w' := by
  obtain ⟨K, hK⟩ : ∃ K, K = Byt.tok s.size s.data.toList := ⟨_, rfl⟩
  have hsz : s.data.toList.length = s.size := by rw [Array.length_toList]; rfl
  have hKl := (tok_len s.size s.data.toList).1
  have hKs := (tok_len s.size s.data.toList).2
  have htk := u_tokens2 s (by omega)
  rw [hsz, ← hK] at hKl hKs
  rw [← hK] at htk ⊢
  have HKS : Hid (Short K) := hide1 (fun t ht => by have := hKs t ht; omega)
  have HTK := hide1 htk
  obtain ⟨T, hT⟩ : ∃ T, T = Byt.readLn K E := ⟨_, rfl⟩
  rw [← hT]
  have HT := hide1 hT
  clear hT htk hKs hsz hK
  have hB0 : Below w.heap.size w (w.alloc (itC ⟨#[]⟩ ins0 ⟨#[]⟩)) := (Below.refl _ _).alloc (Nat.le_refl _) _
  have HB0 := hide1 hB0
  have HX0 := hide1 (Ex.new w ⟨#[]⟩ ins0 ⟨#[]⟩)
  unfold itC ins0 at HB0 HX0
  clear hB0
  go_enter Tryz.func121, Tryz.ntmps121
  go_wp2_with fail
  refine (HTK.out _).mono ?_
  rintro e w1 ⟨tb, tcap, rfl, htc, htb, hst, hb1⟩
  have HB1 := hide1 (HB0.out.trans (hb1.mono HB0.out.size))
  have hX1 := HX0.out.more hb1 (by simp)
  have HB2 : Hid (Below w.heap.size w (w1.alloc (itC ⟨#[]⟩ ⟨0, 0, 0, 0, 0, 0⟩ ⟨#[]⟩))) := hide1 (HB1.out.alloc (by have := HB1.out.size; omega) _)
  have HPZ : Hid (Pz w w.heap.size w1.heap.size tb 0 K ⟨#[]⟩ ⟨0, 0, 0, 0, 0, 0⟩ (w1.alloc (itC ⟨#[]⟩ ⟨0, 0, 0, 0, 0, 0⟩ ⟨#[]⟩))) := hide1 ⟨(StrsAt.more hst htb ((Below.refl _ _).alloc (Nat.le_refl _) _)).out, Ex.new w1 ⟨#[]⟩ ⟨0, 0, 0, 0, 0, 0⟩ ⟨#[]⟩, hX1.alloc _, HB2.out, by simp; omega, htb⟩
  have hwl : w.heap.size < w1.heap.size := hX1.lt
  obtain ⟨ib, hib⟩ : ∃ ib, ib = w1.heap.size := ⟨_, rfl⟩
  unfold itC at HPZ HB2
  clear HTK HB0 HX0 hb1 hX1 HB1 hst htb
  go_upto_region 3 with fail
  obtain ⟨w2, hw2⟩ : ∃ w2, w2 = w1.alloc (.cells #[.string ⟨#[]⟩, .int .i64 0, .int .i64 0, .int .i64 0, .int .i64 0, .int .i64 0, .int .i64 0, .int .i64 0, .string ⟨#[]⟩, .int .i64 0] 140) := ⟨_, rfl⟩
  rw [← hw2] at HPZ HB2 ⊢
  rw [← hib] at HPZ hwl ⊢
  clear hw2 hib
  go_cut [25] from 17 to 25 (fun q wx => ∃ B : Bool, q = .bool B ∧ wx = w2 ∧ Hid (B = true ↔ 1 < K.length ∧ K[1]?.getD [] = [58]))
  case first =>
    by_cases h1 : 1 < K.length
    · have h1' : decide (2 ≤ (K.length : Int)) = true := by simp; omega
      have c1 := HPZ.out.st 1 h1
      obtain ⟨X1, hX1⟩ : ∃ X : ByteArray, X = ⟨(K[1]).toArray⟩ := ⟨_, rfl⟩
      have c1' : w2.cell? ⟨tb, 1, none⟩ = some (.string X1) := by rw [← Nat.zero_add 1, c1, hX1]; rfl
      have g1 : K[1]?.getD [] = X1.data.toList := by rw [hX1, List.getElem?_eq_getElem h1]; rfl
      have q1 : (X1.toList == [58]) = decide (X1.data.toList = [58]) := eq_lit X1 [58]
      clear c1 hX1
      by_cases k1 : X1.data.toList = [58]
      · rw [decide_eq_true k1] at q1
        have HK1 := hide1 (And.intro h1 (g1.trans k1))
        clear k1 g1
        go_wp2_with fail
        go_meet
        case rel => exact ⟨true, rfl, rfl, hide1 ⟨fun _ => HK1.out, fun _ => rfl⟩⟩
      · rw [decide_eq_false k1] at q1
        have HK1 : Hid (¬ (1 < K.length ∧ K[1]?.getD [] = [58])) := hide1 (fun h => k1 (g1.symm.trans h.2))
        clear k1 g1
        go_wp2_with fail
        go_meet
        case rel => exact ⟨false, rfl, rfl, hide1 ⟨fun h => (by cases h), fun h => absurd h HK1.out⟩⟩
    · have h1' : decide (2 ≤ (K.length : Int)) = false := by simp; omega
      have HK1 : Hid (¬ (1 < K.length ∧ K[1]?.getD [] = [58])) := hide1 (fun h => h1 h.1)
      go_wp2_with fail
      go_meet
      case rel => exact ⟨false, rfl, rfl, hide1 ⟨fun h => (by cases h), fun h => absurd h HK1.out⟩⟩
  case rest =>
    obtain ⟨B, rfl, hwc, HQ⟩ := hcut
    rw [hwc]
    clear hwc
    go_upto_if 25 with fail
    go_cut [6] from 25 to 45 (fun t wx => ∃ (o2 cap2 : Nat) (L2 : List (List UInt8)) (N : ByteArray), t = .slice (some ⟨tb, o2, none⟩) L2.length cap2 ∧ L2.length ≤ 5000 ∧ L2.length ≤ cap2 ∧ Hid (T = Byt.readR N.data.toList L2) ∧ Hid (Short L2) ∧ Hid (Pz w w.heap.size ib tb o2 L2 N ⟨0, 0, 0, 0, 0, 0⟩ wx))
    case first =>
      cases B with
      | true =>
        have h1 : 1 < K.length := (HQ.out.1 rfl).1
        have c0 := HPZ.out.st 0 (by omega)
        obtain ⟨X0, hX0⟩ : ∃ X : ByteArray, X = ⟨(K[0]).toArray⟩ := ⟨_, rfl⟩
        have c0' : w2.cell? ⟨tb, 0, none⟩ = some (.string X0) := by rw [← Nat.zero_add 0, c0, hX0]; rfl
        have hm : (K[0]'(by omega)).length ≤ 5000 := HKS.out _ (List.getElem_mem _)
        have s0 : X0.size ≤ 5000 := by rw [hX0]; exact hm
        have g0 : K[0]?.getD [] = X0.data.toList := by rw [hX0, List.getElem?_eq_getElem (by omega)]; rfl
        clear c0 hX0 hm
        obtain ⟨o2, cap2, hsl, hc2, hst2⟩ := slice_drop tb 0 tcap K 2 2 rfl (by omega) htc
        have HSD : Hid (Short (K.drop 2)) := hide1 (fun t ht => HKS.out t (List.mem_of_mem_drop ht))
        have hlD : (K.drop 2).length ≤ 5000 := by rw [List.length_drop]; omega
        have hco := HQ.out.1 rfl
        have HG := hide1 (And.intro hco g0)
        have HS2 := hide1 hst2
        obtain ⟨LD, hLD⟩ : ∃ LD, LD = K.drop 2 := ⟨_, rfl⟩
        have HLD := hide1 hLD
        rw [← hLD] at HS2 HSD hlD hsl hc2
        clear hLD hst2 hco g0 HQ
        cases kn : Byt.isName X0.data.toList
        · have hT : Hid (T = (5, ln0)) := by
            show T = _
            rw [HT.out]
            exact readLn_word HG.out.1 (by rw [HG.out.2, kn]; decide)
          have x0 := HPZ.out.it.c0
          have x1 := HPZ.out.it.c1
          have x2 := HPZ.out.it.c2
          have x3 := HPZ.out.it.c3
          have x4 := HPZ.out.it.c4
          have x5 := HPZ.out.it.c5
          have x6 := HPZ.out.it.c6
          have x7 := HPZ.out.it.c7
          have x8 := HPZ.out.it.c8
          have x9 := HPZ.out.it.c9
          have xf := HPZ.out.it.fro
          have xl := HPZ.out.it.lt
          have z0 := HPZ.out.rs.c0
          have z1 := HPZ.out.rs.c1
          have z2 := HPZ.out.rs.c2
          have z3 := HPZ.out.rs.c3
          have z4 := HPZ.out.rs.c4
          have z5 := HPZ.out.rs.c5
          have z6 := HPZ.out.rs.c6
          have z7 := HPZ.out.rs.c7
          have z8 := HPZ.out.rs.c8
          have z9 := HPZ.out.rs.c9
          have zf := HPZ.out.rs.fro
          have zl := HPZ.out.rs.lt
          go_wp2_with fail
          refine (u_isName X0 s0 _).mono ?_
          rintro e w3 ⟨rfl, rfl⟩
          rw [kn]
          go_wp2_with fail
          refine bodyPost_ret (v := .tuple #[itA ⟨#[]⟩ ⟨0, 0, 0, 0, 0, 0⟩ ⟨#[]⟩, .int .i64 5]) (by simp [results, Tryz.results121, go_sem, itA, ins0, x0, x1, x2, x3, x4, x5, x6, x7, x8, x9, xf, xl, z0, z1, z2, z3, z4, z5, z6, z7, z8, z9, zf, zl]) rfl ⟨⟨⟨#[]⟩, ⟨0, 0, 0, 0, 0, 0⟩, ⟨#[]⟩, by rw [hT.out] <;> rfl, hide1 (fun h => by rw [hT.out] at h; exact absurd h (by decide))⟩, ?_⟩
          repeat (first | with_reducible exact Below.refl _ _ | with_reducible exact HB2.out | (with_reducible refine Below.setCell ?_ (by first | exact Nat.le_refl _ | omega | simp) _) | (with_reducible refine Below.alloc ?_ (by first | omega | simp) _) | (with_reducible refine Below.drew ?_))
        · have hfn := u_named p cape E hE X0 w2 (hide1 (he.out.below HB2.out hp.out))
          obtain ⟨F, hF⟩ : ∃ F, F = Byt.findN E X0.data.toList := ⟨_, rfl⟩
          rw [← hF] at hfn
          have HF := hide1 hF
          have HFN := hide1 hfn
          clear hfn hF
          by_cases hfe : F < E.length
          · have hT : Hid (T = (9, ln0)) := by
              show T = _
              rw [HT.out]
              exact readLn_twice HG.out.1 (by rw [HG.out.2, kn]) (by rw [HG.out.2, ← HF.out]; exact hfe)
            have x0 := HPZ.out.it.c0
            have x1 := HPZ.out.it.c1
            have x2 := HPZ.out.it.c2
            have x3 := HPZ.out.it.c3
            have x4 := HPZ.out.it.c4
            have x5 := HPZ.out.it.c5
            have x6 := HPZ.out.it.c6
            have x7 := HPZ.out.it.c7
            have x8 := HPZ.out.it.c8
            have x9 := HPZ.out.it.c9
            have xf := HPZ.out.it.fro
            have xl := HPZ.out.it.lt
            have z0 := HPZ.out.rs.c0
            have z1 := HPZ.out.rs.c1
            have z2 := HPZ.out.rs.c2
            have z3 := HPZ.out.rs.c3
            have z4 := HPZ.out.rs.c4
            have z5 := HPZ.out.rs.c5
            have z6 := HPZ.out.rs.c6
            have z7 := HPZ.out.rs.c7
            have z8 := HPZ.out.rs.c8
            have z9 := HPZ.out.rs.c9
            have zf := HPZ.out.rs.fro
            have zl := HPZ.out.rs.lt
            go_wp2_with fail
            refine (u_isName X0 s0 _).mono ?_
            rintro e w3 ⟨rfl, rfl⟩
            rw [kn]
            go_wp2_with fail
            refine HFN.out.mono ?_
            rintro e w3 ⟨rfl, rfl⟩
            rw [decide_eq_true hfe]
            go_wp2_with fail
            refine bodyPost_ret (v := .tuple #[itA ⟨#[]⟩ ⟨0, 0, 0, 0, 0, 0⟩ ⟨#[]⟩, .int .i64 9]) (by simp [results, Tryz.results121, go_sem, itA, ins0, x0, x1, x2, x3, x4, x5, x6, x7, x8, x9, xf, xl, z0, z1, z2, z3, z4, z5, z6, z7, z8, z9, zf, zl]) rfl ⟨⟨⟨#[]⟩, ⟨0, 0, 0, 0, 0, 0⟩, ⟨#[]⟩, by rw [hT.out] <;> rfl, hide1 (fun h => by rw [hT.out] at h; exact absurd h (by decide))⟩, ?_⟩
            repeat (first | with_reducible exact Below.refl _ _ | with_reducible exact HB2.out | (with_reducible refine Below.setCell ?_ (by first | exact Nat.le_refl _ | omega | simp) _) | (with_reducible refine Below.alloc ?_ (by first | omega | simp) _) | (with_reducible refine Below.drew ?_))
          · have HR : Hid (T = Byt.readR X0.data.toList LD) := by
              show T = _
              rw [HT.out, HLD.out, ← HG.out.2]
              exact readLn_yes HG.out.1 (by rw [HG.out.2, kn]) (by rw [HG.out.2, ← HF.out]; exact hfe)
            have x0 := HPZ.out.it.c0
            have x1 := HPZ.out.it.c1
            have x2 := HPZ.out.it.c2
            have x3 := HPZ.out.it.c3
            have x4 := HPZ.out.it.c4
            have x5 := HPZ.out.it.c5
            have x6 := HPZ.out.it.c6
            have x7 := HPZ.out.it.c7
            have x8 := HPZ.out.it.c8
            have x9 := HPZ.out.it.c9
            have xf := HPZ.out.it.fro
            have xl := HPZ.out.it.lt
            go_wp2_with fail
            refine (u_isName X0 s0 _).mono ?_
            rintro e w3 ⟨rfl, rfl⟩
            rw [kn]
            go_wp2_with fail
            refine HFN.out.mono ?_
            rintro e w3 ⟨rfl, rfl⟩
            rw [decide_eq_false hfe]
            go_wp2_with fail
            go_meet
            case rel => exact ⟨o2, cap2, LD, X0, rfl, hlD, hc2, HR, HSD, hide1 (HPZ.out.set0 hwl (by omega) X0 HS2.out)⟩
      | false =>
        have HR : Hid (T = Byt.readR [] K) := by
          show T = _
          rw [HT.out]
          exact readLn_not (fun h => by have := HQ.out.2 h; cases this)
        clear HQ
        go_wp2_with fail
        go_meet
        case rel => exact ⟨0, tcap, K, ⟨#[]⟩, rfl, by omega, htc, HR, HKS, HPZ⟩
    case rest =>
      obtain ⟨o2, cap2, L2, N, rfl, hl2, hc2, HR, HSH, HPZ2⟩ := hcut
      have HBW := hide1 HPZ2.out.be
      clear HT HKS HPZ HB2 he hp
      cases L2 with
      | nil =>
        have hT : Hid (T = (0, ⟨N.data.toList, ins0, []⟩)) := HR
        have x0 := HPZ2.out.it.c0
        have x1 := HPZ2.out.it.c1
        have x2 := HPZ2.out.it.c2
        have x3 := HPZ2.out.it.c3
        have x4 := HPZ2.out.it.c4
        have x5 := HPZ2.out.it.c5
        have x6 := HPZ2.out.it.c6
        have x7 := HPZ2.out.it.c7
        have x8 := HPZ2.out.it.c8
        have x9 := HPZ2.out.it.c9
        have xf := HPZ2.out.it.fro
        have xl := HPZ2.out.it.lt
        have z0 := HPZ2.out.rs.c0
        have z1 := HPZ2.out.rs.c1
        have z2 := HPZ2.out.rs.c2
        have z3 := HPZ2.out.rs.c3
        have z4 := HPZ2.out.rs.c4
        have z5 := HPZ2.out.rs.c5
        have z6 := HPZ2.out.rs.c6
        have z7 := HPZ2.out.rs.c7
        have z8 := HPZ2.out.rs.c8
        have z9 := HPZ2.out.rs.c9
        have zf := HPZ2.out.rs.fro
        have zl := HPZ2.out.rs.lt
        clear HR
        go_wp2_with fail
        refine bodyPost_ret (v := .tuple #[itA N ⟨0, 0, 0, 0, 0, 0⟩ ⟨#[]⟩, .int .i64 0]) (by simp [results, Tryz.results121, go_sem, itA, ins0, x0, x1, x2, x3, x4, x5, x6, x7, x8, x9, xf, xl, z0, z1, z2, z3, z4, z5, z6, z7, z8, z9, zf, zl]) rfl ⟨⟨N, ⟨0, 0, 0, 0, 0, 0⟩, ⟨#[]⟩, by rw [hT.out] <;> rfl, hide1 (fun _ => by rw [hT.out]; exact ⟨(mk_list N).symm, rfl, rfl⟩)⟩, ?_⟩
        repeat (first | with_reducible exact Below.refl _ _ | with_reducible exact HBW.out | (with_reducible refine Below.setCell ?_ (by first | exact Nat.le_refl _ | omega | simp) _) | (with_reducible refine Below.alloc ?_ (by first | omega | simp) _) | (with_reducible refine Below.drew ?_))
      | cons t LT =>
        have c0 := HPZ2.out.st 0 (by simp)
        obtain ⟨X, hX⟩ : ∃ X : ByteArray, X = ⟨t.toArray⟩ := ⟨_, rfl⟩
        have d0 : wc.cell? ⟨tb, o2, none⟩ = some (.string X) := by rw [← Nat.add_zero o2, c0, hX]; rfl
        have hXt : X.data.toList = t := by rw [hX]
        have hop := u_operation X
        rw [hXt] at hop
        obtain ⟨o3, cap3, hsl3, hc3, hst3⟩ := slice_drop tb o2 cap2 (t :: LT) 1 1 rfl (by simp) hc2
        simp only [List.drop_succ_cons, List.drop_zero] at hsl3 hc3 hst3
        obtain ⟨V, hV⟩ : ∃ V, V = Byt.wrd t := ⟨_, rfl⟩
        have hV72 : V.1 ≤ 72 := by rw [hV]; exact wrd_le t
        have hVz : V.1 = 0 ↔ V.2 = 0 := by rw [hV]; exact wrd_z t
        rw [← hV] at hop
        obtain ⟨op, sz⟩ := V
        simp only at hV72 hVz hop
        have HOP := hide1 hop
        have HV := hide1 hV
        have HVZ := hide1 hVz
        have HS3 := hide1 hst3
        simp only [List.length_cons] at hl2 hc2 hsl3 ⊢
        have hne : ((LT.length : Int) + 1 == 0) = false := by simp; omega
        have hne2 : (LT.length + 1 == 0) = false := by simp
        clear c0 hX hXt hop hV hVz hst3
        by_cases hz : op = 0
        · have hT : Hid (T = (5, ln0)) := by
            show T = _
            rw [HR.out]
            exact readR_no _ _ _ (by rw [← HV.out]; exact HVZ.out.1 hz)
          subst hz
          clear HR
          have x0 := HPZ2.out.it.c0
          have x1 := HPZ2.out.it.c1
          have x2 := HPZ2.out.it.c2
          have x3 := HPZ2.out.it.c3
          have x4 := HPZ2.out.it.c4
          have x5 := HPZ2.out.it.c5
          have x6 := HPZ2.out.it.c6
          have x7 := HPZ2.out.it.c7
          have x8 := HPZ2.out.it.c8
          have x9 := HPZ2.out.it.c9
          have xf := HPZ2.out.it.fro
          have xl := HPZ2.out.it.lt
          have z0 := HPZ2.out.rs.c0
          have z1 := HPZ2.out.rs.c1
          have z2 := HPZ2.out.rs.c2
          have z3 := HPZ2.out.rs.c3
          have z4 := HPZ2.out.rs.c4
          have z5 := HPZ2.out.rs.c5
          have z6 := HPZ2.out.rs.c6
          have z7 := HPZ2.out.rs.c7
          have z8 := HPZ2.out.rs.c8
          have z9 := HPZ2.out.rs.c9
          have zf := HPZ2.out.rs.fro
          have zl := HPZ2.out.rs.lt
          go_wp2_with fail
          refine (HOP.out _).mono ?_
          rintro e w3 ⟨rfl, rfl⟩
          go_wp2_with fail
          refine bodyPost_ret (v := .tuple #[itA N ⟨0, 0, 0, 0, 0, 0⟩ ⟨#[]⟩, .int .i64 5]) (by simp [results, Tryz.results121, go_sem, itA, ins0, x0, x1, x2, x3, x4, x5, x6, x7, x8, x9, xf, xl, z0, z1, z2, z3, z4, z5, z6, z7, z8, z9, zf, zl]) rfl ⟨⟨N, ⟨0, 0, 0, 0, 0, 0⟩, ⟨#[]⟩, by rw [hT.out] <;> rfl, hide1 (fun h => by rw [hT.out] at h; exact absurd h (by decide))⟩, ?_⟩
          repeat (first | with_reducible exact Below.refl _ _ | with_reducible exact HBW.out | (with_reducible refine Below.setCell ?_ (by first | exact Nat.le_refl _ | omega | simp) _) | (with_reducible refine Below.alloc ?_ (by first | omega | simp) _) | (with_reducible refine Below.drew ?_))
        · have hz' : ((op : Int) == 0) = false := by simp; omega
          have hz2 : (op == 0) = false := by simp; omega
          have hT3 : ∀ O, O = Byt.opsP (Byt.shp op) false ⟨op, 0, 0, 0, 0, sz⟩ [] LT → (O = none → T = (6, ln0)) ∧ (∀ i g, O = some (i, g) → T = (0, ⟨N.data.toList, i, g⟩)) := by
            intro O hO
            have e1 : (Byt.wrd t).1 = op := by rw [← HV.out]
            have e2 : (Byt.wrd t).2 = sz := by rw [← HV.out]
            have e3 : ¬ sz = 0 := fun h => hz (HVZ.out.2 h)
            refine ⟨fun h => ?_, fun i g h => ?_⟩
            · rw [HR.out]; exact readR_bad _ _ _ (by rw [e2]; exact e3) (by rw [e1, e2, ← hO]; exact h)
            · rw [HR.out]; exact readR_yes _ _ _ (by rw [e2]; exact e3) (by rw [e1, e2, ← hO]; exact h)
          obtain ⟨S, hS⟩ : ∃ S, S = Nm.shape op := ⟨_, rfl⟩
          have hs8 := (shape_ok op hV72).1
          have hsl := (shape_ok op hV72).2
          have hjk := shape_j op hV72
          rw [← hS] at hs8 hjk
          have HLET : Hid (∀ k (h : k < S.size), S[k].toNat = 100 ∨ S[k].toNat = 115 ∨ S[k].toNat = 116 ∨ S[k].toNat = 109 ∨ S[k].toNat = 106 ∨ S[k].toNat = 117 ∨ S[k].toNat = 105) := by rw [hS]; exact hide1 hsl
          have HJK := hide1 hjk
          obtain ⟨O, hO⟩ : ∃ O, O = Byt.opsP (S.data.toList.map UInt8.toNat) false ⟨op, 0, 0, 0, 0, sz⟩ [] LT := ⟨_, rfl⟩
          have HTO := hide1 (hT3 O (by rw [hO, hS]; rfl))
          have HO := hide1 hO
          have hsp := u_Shape (op : Int)
          have hSS : Nm.shape (op : Int) = S := hS.symm
          rw [hSS] at hsp
          have HSP := hide1 hsp
          clear hT3 hsl hjk hO hS hSS hsp HR HV HVZ
          have HP4 := hide1 (HPZ2.out.set4 hwl (by omega) op sz)
          have x0 := HPZ2.out.it.c0
          have x1 := HPZ2.out.it.c1
          have x2 := HPZ2.out.it.c2
          have x3 := HPZ2.out.it.c3
          have x4 := HPZ2.out.it.c4
          have x5 := HPZ2.out.it.c5
          have x6 := HPZ2.out.it.c6
          have x7 := HPZ2.out.it.c7
          have x8 := HPZ2.out.it.c8
          have x9 := HPZ2.out.it.c9
          have xf := HPZ2.out.it.fro
          have xl := HPZ2.out.it.lt
          go_wp2_with fail
          refine (HOP.out _).mono ?_
          rintro e w3 ⟨rfl, rfl⟩
          go_upto_region 21 with fail
          go_cut [12] from 70 to 71 (fun q wx => q = .string S ∧ Hid (Pz w w.heap.size ib tb o2 (t :: LT) N ⟨op, 0, 0, 0, 0, sz⟩ wx))
          case first =>
            go_wp2_with (go_at_call 118; refine (HSP.out _).mono ?_; rintro e w' ⟨rfl, rfl⟩)
            go_meet
            case rel => exact ⟨rfl, HP4⟩
          case rest =>
            obtain ⟨rfl, HP5⟩ := hcut
            clear x0 x1 x2 x3 x4 x5 x6 x7 x8 x9 xf xl d0 HP4 HPZ2 HBW HOP HSP
            have hbd : Below wc.heap.size wc wc.drew := (Below.refl _ _).drew
            have hcall := u_operands N ⟨op, 0, 0, 0, 0, sz⟩ [] S hs8 HLET HJK (hide1 rfl) tb o3 cap3 LT (by omega) hc3 wc.drew (StrsAt.more (hide1 (HS3.out _ HP5.out.st)) HP5.out.tl hbd) (Nat.lt_of_lt_of_le HP5.out.tl hbd.size) (hide1 (fun t ht => HSH.out t (List.mem_cons_of_mem _ ht)))
            rw [← HO.out] at hcall
            have HCA := hide1 (hcall.mono fun e w3 h => (⟨h.1, hide1 (HP5.out.be.trans ((hbd.trans (h.2.mono hbd.size)).mono HP5.out.be.size)), hide1 (HP5.out.it.more (hbd.trans (h.2.mono hbd.size)) HP5.out.it.lt), hide1 (HP5.out.rs.more (hbd.trans (h.2.mono hbd.size)) HP5.out.rs.lt)⟩ : _ ∧ Hid (Below w.heap.size w w3) ∧ Hid (Ex w3 ib N ⟨op, 0, 0, 0, 0, sz⟩ ⟨#[]⟩) ∧ Hid (Ex w3 w.heap.size ⟨#[]⟩ ⟨0, 0, 0, 0, 0, 0⟩ ⟨#[]⟩)))
            unfold itA at HCA
            clear hcall hbd HS3 HO
            have x0 := HP5.out.it.c0
            have x1 := HP5.out.it.c1
            have x2 := HP5.out.it.c2
            have x3 := HP5.out.it.c3
            have x4 := HP5.out.it.c4
            have x5 := HP5.out.it.c5
            have x6 := HP5.out.it.c6
            have x7 := HP5.out.it.c7
            have x8 := HP5.out.it.c8
            have x9 := HP5.out.it.c9
            have xf := HP5.out.it.fro
            have xl := HP5.out.it.lt
            go_upto_region 22 with fail
            go_cut [13] from 72 to 79 (fun q wx => ∃ (I1 : Ins) (G1 : ByteArray), q = .bool O.isSome ∧ Hid (Ex wx ib N I1 G1) ∧ Hid (Ex wx w.heap.size ⟨#[]⟩ ⟨0, 0, 0, 0, 0, 0⟩ ⟨#[]⟩) ∧ Hid (Below w.heap.size w wx) ∧ Hid (∀ x y, O = some (x, y) → I1 = x ∧ G1 = ⟨y.toArray⟩))
            case first =>
              go_region_with (go_at_call 173; refine HCA.out.mono ?_; rintro e w3 ⟨⟨I1, G1, rfl, hfin⟩, hb3, hi3, hr3⟩; unfold itA; have z0 := hi3.out.c0; have z1 := hi3.out.c1; have z2 := hi3.out.c2; have z3 := hi3.out.c3; have z4 := hi3.out.c4; have z5 := hi3.out.c5; have z6 := hi3.out.c6; have z7 := hi3.out.c7; have z8 := hi3.out.c8; have z9 := hi3.out.c9; have zf := hi3.out.fro; have zl := hi3.out.lt)
              all_goals (go_wp2_with fail; go_meet)
              all_goals exact ⟨I1, G1, rfl, hide1 (Ex.put hi3.out), hide1 (hr3.out.put_ne (by omega)), hide1 (below_putI hb3.out (by omega) _ _ _), hfin⟩
            case rest =>
              obtain ⟨I1, G1, rfl, HI, HRS, HBW, hfin⟩ := hcut
              clear x0 x1 x2 x3 x4 x5 x6 x7 x8 x9 xf xl HCA HP5
              have x0 := HI.out.c0
              have x1 := HI.out.c1
              have x2 := HI.out.c2
              have x3 := HI.out.c3
              have x4 := HI.out.c4
              have x5 := HI.out.c5
              have x6 := HI.out.c6
              have x7 := HI.out.c7
              have x8 := HI.out.c8
              have x9 := HI.out.c9
              have xf := HI.out.fro
              have xl := HI.out.lt
              have z0 := HRS.out.c0
              have z1 := HRS.out.c1
              have z2 := HRS.out.c2
              have z3 := HRS.out.c3
              have z4 := HRS.out.c4
              have z5 := HRS.out.c5
              have z6 := HRS.out.c6
              have z7 := HRS.out.c7
              have z8 := HRS.out.c8
              have z9 := HRS.out.c9
              have zf := HRS.out.fro
              have zl := HRS.out.lt
              cases O with
              | none =>
                have hT := hide1 (HTO.out.1 rfl)
                clear HTO hfin
                go_wp2_with fail
                refine bodyPost_ret (v := .tuple #[itA N I1 G1, .int .i64 6]) (by simp [results, Tryz.results121, go_sem, itA, ins0, x0, x1, x2, x3, x4, x5, x6, x7, x8, x9, xf, xl, z0, z1, z2, z3, z4, z5, z6, z7, z8, z9, zf, zl]) rfl ⟨⟨N, I1, G1, by rw [hT.out] <;> rfl, hide1 (fun h => by rw [hT.out] at h; exact absurd h (by decide))⟩, ?_⟩
                repeat (first | with_reducible exact Below.refl _ _ | with_reducible exact HBW.out | (with_reducible refine Below.setCell ?_ (by first | exact Nat.le_refl _ | omega | simp) _) | (with_reducible refine Below.alloc ?_ (by first | omega | simp) _) | (with_reducible refine Below.drew ?_))
              | some r =>
                obtain ⟨x, y⟩ := r
                have hT := hide1 (HTO.out.2 x y rfl)
                have hfx := hfin.out x y rfl
                have HFX := hide1 hfx
                clear HTO hfin hfx
                go_wp2_with fail
                refine bodyPost_ret (v := .tuple #[itA N I1 G1, .int .i64 0]) (by simp [results, Tryz.results121, go_sem, itA, ins0, x0, x1, x2, x3, x4, x5, x6, x7, x8, x9, xf, xl, z0, z1, z2, z3, z4, z5, z6, z7, z8, z9, zf, zl]) rfl ⟨⟨N, I1, G1, by rw [hT.out] <;> rfl, hide1 (fun _ => by rw [hT.out]; exact ⟨(mk_list N).symm, HFX.out.1, HFX.out.2⟩)⟩, ?_⟩
                repeat (first | with_reducible exact Below.refl _ _ | with_reducible exact HBW.out | (with_reducible refine Below.setCell ?_ (by first | exact Nat.le_refl _ | omega | simp) _) | (with_reducible refine Below.alloc ?_ (by first | omega | simp) _) | (with_reducible refine Below.drew ?_))
end Go.Proofs.YthfofjkfbhahoaaGreatDoor
end
