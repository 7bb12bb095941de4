import Derived.Test.YthfofjkfbhahoaaGreatDoorXQ
import Derived.Test.YthfofjkfbhahoaaGreatDoorXR
section
namespace Go.Proofs.YthfofjkfbhahoaaGreatDoor
open Go.RowKit
set_option linter.unusedSimpArgs false
theorem shapes_ok : ((List.range 73).all fun n => decide ((Nm.shape n).size ≤ 8) && (Nm.shape n).data.toList.all fun c => c.toNat == 100 || c.toNat == 115 || c.toNat == 116 || c.toNat == 109 || c.toNat == 106 || c.toNat == 117 || c.toNat == 105) = true := by decide +kernel
theorem shape_ok (n : Nat) (h : n ≤ 72) : (Nm.shape n).size ≤ 8 ∧ ∀ k (h : k < (Nm.shape n).size), (Nm.shape n)[k].toNat = 100 ∨ (Nm.shape n)[k].toNat = 115 ∨ (Nm.shape n)[k].toNat = 116 ∨ (Nm.shape n)[k].toNat = 109 ∨ (Nm.shape n)[k].toNat = 106 ∨ (Nm.shape n)[k].toNat = 117 ∨ (Nm.shape n)[k].toNat = 105 := by
  have h1 := List.all_eq_true.1 shapes_ok n (by simp; omega)
  rw [Bool.and_eq_true, decide_eq_true_eq, List.all_eq_true] at h1
  refine ⟨h1.1, fun k hk => ?_⟩
  have h2 := h1.2 (Nm.shape n)[k] (by
    have : (Nm.shape n)[k] = (Nm.shape n).data.toList[k]'(by rw [Array.length_toList]; exact hk) := rfl
    rw [this]; exact List.getElem_mem _)
  simp only [Bool.or_eq_true, beq_iff_eq] at h2
  omega
theorem wrdFrom_le (t : List UInt8) : ∀ f op, (Byt.wrdFrom t f op).1 < op + f ∨ (Byt.wrdFrom t f op) = (0, 0)
  | 0, op => .inr rfl
  | f + 1, op => by
    have ih := wrdFrom_le t f (op + 1)
    unfold Byt.wrdFrom
    split
    · left; simp
    · split
      · left; simp
      · rcases ih with h | h
        · left; omega
        · right; exact h
theorem wrd_le (t : List UInt8) : (Byt.wrd t).1 ≤ 72 := by
  unfold Byt.wrd
  split
  · decide
  · split
    · decide
    · rcases wrdFrom_le t 70 1 with h | h
      · omega
      · rw [h]; decide
theorem slice_drop (b o cap : Nat) (L : List (List UInt8)) (k : Nat) (n : Int) (hn : n = k) (hk : k ≤ L.length) (hcap : L.length ≤ cap) : ∃ o' cap', (∀ w, (Instr.slice 136 (.slice (some ⟨b, o, none⟩) L.length cap) (some (.int .i64 n)) none none).run Tryz.prog w = .ok (.slice (some ⟨b, o', none⟩) (L.drop k).length cap') w) ∧ (L.drop k).length ≤ cap' ∧ (∀ w, StrsAt w b o L → StrsAt w b o' (L.drop k)) := by
  have hr : ∀ w, (Instr.slice 136 (.slice (some ⟨b, o, none⟩) L.length cap) (some (.int .i64 n)) none none).run Tryz.prog w = .ok (.slice (if cap = k then some ⟨b, o, none⟩ else some ⟨b, o + k, none⟩) (L.drop k).length (cap - k)) w := by
    intro w
    have hu : Tryz.prog.underlying 136 = some (.slice (Tryz.prog.elem 136)) := by kernel_rfl
    have h := run_slice_l (P := Tryz.prog) w 136 (some ⟨b, o, none⟩) L.length cap hu .i64 n (by omega) (by omega)
    rw [h]
    have hz : (_root_.Go.sizeOf (Tryz.prog.elem 136)).run Tryz.prog w = .ok 1 w := by kernel_rfl
    rw [hz]
    simp only [Result.andThen, sliced, List.length_drop]
    rw [show n.toNat = k by omega, Nat.mul_one, Option.map_some, show (⟨b, o, none⟩ : Addr).add k = ⟨b, o + k, none⟩ by simp [Addr.add]]
  by_cases hc : cap = k
  · refine ⟨o, cap - k, fun w => by rw [hr w, if_pos hc], by rw [List.length_drop]; omega, fun w _ j hj => ?_⟩
    rw [List.length_drop] at hj; omega
  · exact ⟨o + k, cap - k, fun w => by rw [hr w, if_neg hc], by rw [List.length_drop]; omega, fun w h => h.drop k⟩
theorem Cx.below {w w' : World} {b o n : Nat} {l : Ln} (h : Cx w b o l) (hb : Below n w w') (hn : b < n) : Cx w' b o l :=
  ⟨(hb.cell (p := ⟨b, o, none⟩) hn).trans h.c0, (hb.cell (p := ⟨b, o + 1, none⟩) hn).trans h.c1, (hb.cell (p := ⟨b, o + 2, none⟩) hn).trans h.c2, (hb.cell (p := ⟨b, o + 3, none⟩) hn).trans h.c3, (hb.cell (p := ⟨b, o + 4, none⟩) hn).trans h.c4, (hb.cell (p := ⟨b, o + 5, none⟩) hn).trans h.c5, (hb.cell (p := ⟨b, o + 6, none⟩) hn).trans h.c6, (hb.cell (p := ⟨b, o + 7, none⟩) hn).trans h.c7⟩
theorem LnsAt.below {w w' : World} {p : Option Addr} {n : Nat} {L : List Ln} (h : LnsAt w p L) (hb : Below n w w') (hn : ∀ a, p = some a → a.block < n) : LnsAt w' p L := by
  rcases h with h | ⟨b, rfl, h⟩
  · exact .inl h
  · exact .inr ⟨b, rfl, fun j hj => (h j hj).below hb (hn _ rfl)⟩
theorem readR_no (nm : List UInt8) (t : List UInt8) (LT : List (List UInt8)) (h : (Byt.wrd t).2 = 0) : Byt.readR nm (t :: LT) = (5, ln0) := by
  unfold Byt.readR; simp only; rw [if_pos h]
theorem readR_bad (nm : List UInt8) (t : List UInt8) (LT : List (List UInt8)) (h : ¬ (Byt.wrd t).2 = 0) (ho : Byt.opsP (Byt.shp (Byt.wrd t).1) false ⟨(Byt.wrd t).1, 0, 0, 0, 0, (Byt.wrd t).2⟩ [] LT = none) : Byt.readR nm (t :: LT) = (6, ln0) := by
  unfold Byt.readR; simp only; rw [if_neg h, ho]
theorem readR_yes (nm : List UInt8) (t : List UInt8) (LT : List (List UInt8)) (h : ¬ (Byt.wrd t).2 = 0) {i : Ins} {g : List UInt8} (ho : Byt.opsP (Byt.shp (Byt.wrd t).1) false ⟨(Byt.wrd t).1, 0, 0, 0, 0, (Byt.wrd t).2⟩ [] LT = some (i, g)) : Byt.readR nm (t :: LT) = (0, ⟨nm, i, g⟩) := by
  unfold Byt.readR; simp only; rw [if_neg h, ho]
theorem readLn_not {L : List (List UInt8)} {E : List Ln} (h : ¬ (1 < L.length ∧ L[1]?.getD [] = [58])) : Byt.readLn L E = Byt.readR [] L := by
  unfold Byt.readLn; rw [if_neg h]
theorem readLn_word {L : List (List UInt8)} {E : List Ln} (h : 1 < L.length ∧ L[1]?.getD [] = [58]) (hn : ¬ Byt.isName (L[0]?.getD []) = true) : Byt.readLn L E = (5, ln0) := by
  unfold Byt.readLn; rw [if_pos h, if_neg hn]
theorem readLn_twice {L : List (List UInt8)} {E : List Ln} (h : 1 < L.length ∧ L[1]?.getD [] = [58]) (hn : Byt.isName (L[0]?.getD []) = true) (hf : Byt.findN E (L[0]?.getD []) < E.length) : Byt.readLn L E = (9, ln0) := by
  unfold Byt.readLn; rw [if_pos h, if_pos hn, if_pos hf]
theorem readLn_yes {L : List (List UInt8)} {E : List Ln} (h : 1 < L.length ∧ L[1]?.getD [] = [58]) (hn : Byt.isName (L[0]?.getD []) = true) (hf : ¬ Byt.findN E (L[0]?.getD []) < E.length) : Byt.readLn L E = Byt.readR (L[0]?.getD []) (L.drop 2) := by
  unfold Byt.readLn; rw [if_pos h, if_pos hn, if_neg hf]
set_option maxHeartbeats 4000000 in
theorem a_readLine (b o cap : Nat) (L : List (List UInt8)) (hL : L.length ≤ 5000) (hcap : L.length ≤ cap) (p : Option Addr) (cape : Nat) (E : List Ln) (hE : E.length ≤ 5000) (w : World) (hw : Hid (StrsAt w b o L)) (hb : b < w.heap.size) (hs : Hid (Short L)) (he : Hid (LnsAt w p E)) (hp : Hid (∀ a, p = some a → a.block < w.heap.size)) :
    Calls Tryz.prog 146 #[.slice (some ⟨b, o, none⟩) L.length cap, .slice p E.length cape] w fun e w' => e = .returned (.tuple #[lnV (Byt.readLn L E).2, .int .i64 (Byt.readLn L E).1]) ∧ Below w.heap.size w w' := by
  obtain ⟨T, hT⟩ : ∃ T, T = Byt.readLn L E := ⟨_, rfl⟩
  rw [← hT]
  have HT := hide1 hT
  clear hT
  obtain ⟨NM, hNM⟩ : ∃ NM : ByteArray, NM = ⟨#[]⟩ := ⟨_, rfl⟩
  go_enter Tryz.func146, Tryz.ntmps146
  by_cases h1 : 1 < L.length
  · have h1' : decide (1 < (L.length : Int)) = true := by simp; omega
    have c1 := hw.out 1 h1
    obtain ⟨X1, hX1⟩ : ∃ X : ByteArray, X = ⟨(L[1]).toArray⟩ := ⟨_, rfl⟩
    have c1' : w.cell? ⟨b, o + 1, none⟩ = some (.string X1) := by rw [c1, hX1]; rfl
    have g1 : L[1]?.getD [] = X1.data.toList := by rw [hX1, List.getElem?_eq_getElem h1]; rfl
    have q1 : (X1.toList == [58]) = decide (X1.data.toList = [58]) := eq_lit X1 [58]
    clear c1 hX1
    by_cases k1 : X1.data.toList = [58]
    · rw [decide_eq_true k1] at q1
      have c0 := hw.out 0 (by omega)
      obtain ⟨X0, hX0⟩ : ∃ X : ByteArray, X = ⟨(L[0]).toArray⟩ := ⟨_, rfl⟩
      have c0' : w.cell? ⟨b, o, none⟩ = some (.string X0) := by rw [← Nat.add_zero o, c0, hX0]; rfl
      have hm : (L[0]'(by omega)).length ≤ 5000 := hs.out _ (List.getElem_mem _)
      have s0 : X0.size ≤ 5000 := by rw [hX0]; exact hm
      have g0 : L[0]?.getD [] = X0.data.toList := by rw [hX0, List.getElem?_eq_getElem (by omega)]; rfl
      have hX0' : X0 = ⟨X0.data.toList.toArray⟩ := (mk_list X0).symm
      have HNM := hide1 hX0'
      clear c0 hX0 hm hX0'
      obtain ⟨o2, cap2, hsl, hc2, hst⟩ := slice_drop b o cap L 2 2 rfl (by omega) hcap
      have HST := hide1 (hst w hw.out)
      have HSD : Hid (Short (L.drop 2)) := fun t ht => hs.out t (List.mem_of_mem_drop ht)
      have hlD : (L.drop 2).length ≤ 5000 := by rw [List.length_drop]; omega
      have hco : 1 < L.length ∧ L[1]?.getD [] = [58] := ⟨h1, by rw [g1]; exact k1⟩
      have HG := hide1 (And.intro hco g0)
      obtain ⟨LD, hLD⟩ : ∃ LD, LD = L.drop 2 := ⟨_, rfl⟩
      have HLD := hide1 hLD
      rw [← hLD] at HST HSD hlD hsl hc2
      have hcD := hc2
      clear hLD hst hc2 g1 k1 hco g0
      cases kn : Byt.isName X0.data.toList
      · have hT : Hid (T = (5, ln0)) := by
          show T = _
          rw [HT.out]
          exact readLn_word HG.out.1 (by rw [HG.out.2, kn]; decide)
        go_wp2_with fail
        refine (a_isName X0 s0 _).mono ?_
        rintro e w1 ⟨rfl, rfl⟩
        rw [kn]
        clear q1 c1'
        go_wp2
        refine bodyPost_ret (v := .tuple #[lnA ⟨#[]⟩ ins0 ⟨#[]⟩, .int .i64 5]) (by simp [results, Tryz.results146, go_sem, lnV, lnA, ins0, ln0]) rfl ⟨by rw [hT.out] <;> rfl, ?_⟩
        repeat (first | with_reducible exact Below.refl _ _ | with_reducible exact HB1.out | (with_reducible refine Below.setCell ?_ (by simp) _) | (with_reducible refine Below.alloc ?_ (by simp) _))
      · have hbw : Below w.heap.size w (w.alloc (lnC ⟨#[]⟩ ins0 ⟨#[]⟩)) := (Below.refl _ _).alloc (Nat.le_refl _) _
        have hfn := a_findName p cape E hE X0 _ (hide1 (he.out.below hbw hp.out))
        obtain ⟨F, hF⟩ : ∃ F, F = Byt.findN E X0.data.toList := ⟨_, rfl⟩
        rw [← hF] at hfn
        have HF := hide1 hF
        have HFN := hide1 hfn
        unfold lnC ins0 at HFN
        clear hfn hF hbw
        by_cases hfe : F < E.length
        · have hT : Hid (T = (9, ln0)) := by
            show T = _
            rw [HT.out]
            exact readLn_twice HG.out.1 (by rw [HG.out.2, kn]) (by rw [HG.out.2, ← HF.out]; exact hfe)
          have hfe' : decide ((F : Int) < (E.length : Int)) = true := by simp; omega
          go_wp2_with fail
          refine (a_isName X0 s0 _).mono ?_
          rintro e w1 ⟨rfl, rfl⟩
          rw [kn]
          clear q1 c1'
          go_wp2_with fail
          refine HFN.out.mono ?_
          rintro e w1 ⟨rfl, rfl⟩
          go_wp2
          refine bodyPost_ret (v := .tuple #[lnA ⟨#[]⟩ ins0 ⟨#[]⟩, .int .i64 9]) (by simp [results, Tryz.results146, go_sem, lnV, lnA, ins0, ln0]) rfl ⟨by rw [hT.out] <;> rfl, ?_⟩
          repeat (first | with_reducible exact Below.refl _ _ | with_reducible exact HB1.out | (with_reducible refine Below.setCell ?_ (by simp) _) | (with_reducible refine Below.alloc ?_ (by simp) _))
        · have HR : Hid (T = Byt.readR X0.data.toList LD) := by
            show T = _
            rw [HT.out, HLD.out, ← HG.out.2]
            exact readLn_yes HG.out.1 (by rw [HG.out.2, kn]) (by rw [HG.out.2, ← HF.out]; exact hfe)
          have hfe' : decide ((F : Int) < (E.length : Int)) = false := by simp; omega
          go_wp2_with fail
          refine (a_isName X0 s0 _).mono ?_
          rintro e w1 ⟨rfl, rfl⟩
          rw [kn]
          clear q1 c1'
          go_upto_region 7 with fail
          go_wp2_with fail
          refine HFN.out.mono ?_
          rintro e w1 ⟨rfl, rfl⟩
          clear HFN HF kn HG HLD HT c0' s0
          go_upto_region 9 with fail
          clear hfe hfe' h1 h1' hsl
          cases LD with
          | nil =>
            have hT : Hid (T = (0, ⟨X0.data.toList, ins0, []⟩)) := HR
            clear HR
            go_wp2
            refine bodyPost_ret (v := .tuple #[lnA X0 ins0 ⟨#[]⟩, .int .i64 0]) (by simp [results, Tryz.results146, go_sem, lnV, lnA, ins0, ln0]) rfl ⟨by rw [hT.out] <;> simp only [lnV] <;> (first | rfl | rw [← HNM.out]), ?_⟩
            repeat (first | with_reducible exact Below.refl _ _ | with_reducible exact HB1.out | (with_reducible refine Below.setCell ?_ (by simp) _) | (with_reducible refine Below.alloc ?_ (by simp) _))
          | cons t LT =>
            have c0 := HST.out 0 (by simp)
            obtain ⟨X, hX⟩ : ∃ X : ByteArray, X = ⟨t.toArray⟩ := ⟨_, rfl⟩
            have d0 : w.cell? ⟨b, o2, none⟩ = some (.string X) := by rw [← Nat.add_zero o2, c0, hX]; rfl
            have hXt : X.data.toList = t := by rw [hX]
            have hrw := a_readWord X
            obtain ⟨o3, cap3, hsl3, hc3, hst3⟩ := slice_drop b o2 cap2 (t :: LT) 1 1 rfl (by simp) hcD
            have hst3' := hst3 w HST.out
            simp only [List.drop_succ_cons, List.drop_zero] at hsl3 hc3 hst3'
            rw [hXt] at hrw
            obtain ⟨V, hV⟩ : ∃ V, V = Byt.wrd t := ⟨_, rfl⟩
            have hV72 : V.1 ≤ 72 := by rw [hV]; exact wrd_le t
            rw [← hV] at hrw
            obtain ⟨op, sz⟩ := V
            have HRW := hide1 hrw
            have HV := hide1 hV
            have HST3 := hide1 hst3'
            simp only [List.length_cons] at hlD hcD hsl3
            have hne : ((LT.length : Int) + 1 == 0) = false := by simp; omega
            have hne2 : (LT.length + 1 == 0) = false := by simp
            clear c0 hst3 hst3' hrw hV hX hXt HST
            by_cases hz : sz = 0
            · have hT : Hid (T = (5, ln0)) := by
                show T = _
                rw [HR.out]
                exact readR_no _ _ _ (by rw [← HV.out]; exact hz)
              subst hz
              clear HR
              go_wp2_with fail
              refine (HRW.out _).mono ?_
              rintro e w1 ⟨rfl, rfl⟩
              go_wp2
              refine bodyPost_ret (v := .tuple #[lnA ⟨#[]⟩ ins0 ⟨#[]⟩, .int .i64 5]) (by simp [results, Tryz.results146, go_sem, lnV, lnA, ins0, ln0]) rfl ⟨by rw [hT.out] <;> rfl, ?_⟩
              repeat (first | with_reducible exact Below.refl _ _ | with_reducible exact HB1.out | (with_reducible refine Below.setCell ?_ (by simp) _) | (with_reducible refine Below.alloc ?_ (by simp) _))
            · have hz' : ((sz : Int) == 0) = false := by simp; omega
              have hz2 : (sz == 0) = false := by simp; omega
              have hT3 : ∀ O, O = Byt.opsP (Byt.shp op) false ⟨op, 0, 0, 0, 0, sz⟩ [] LT → (O = none → T = (6, ln0)) ∧ (∀ i g, O = some (i, g) → T = (0, ⟨X0.data.toList, i, g⟩)) := by
                intro O hO
                have e1 : (Byt.wrd t).1 = op := by rw [← HV.out]
                have e2 : (Byt.wrd t).2 = sz := by rw [← HV.out]
                refine ⟨fun h => ?_, fun i g h => ?_⟩
                · rw [HR.out]; exact readR_bad _ _ _ (by rw [e2]; exact hz) (by rw [e1, e2, ← hO]; exact h)
                · rw [HR.out]; exact readR_yes _ _ _ (by rw [e2]; exact hz) (by rw [e1, e2, ← hO]; exact h)
              obtain ⟨S, hS⟩ : ∃ S, S = Nm.shape op := ⟨_, rfl⟩
              have hs8 := (shape_ok op hV72).1
              have hsl := (shape_ok op hV72).2
              rw [← hS] at hs8
              have hbw : Below w.heap.size w (w.alloc (lnC ⟨#[]⟩ ins0 ⟨#[]⟩)) := (Below.refl _ _).alloc (Nat.le_refl _) _
              have hcall := a_readOperands X0 ⟨op, 0, 0, 0, 0, sz⟩ [] S (hide1 hS.symm) hs8 (by rw [hS]; exact hide1 hsl) b o3 cap3 LT (by omega) _ (StrsAt.more HST3 hb hbw) (Nat.lt_of_lt_of_le hb hbw.size) (hide1 (fun t ht => HSD.out t (List.mem_cons_of_mem _ ht)))
              obtain ⟨O, hO⟩ : ∃ O, O = Byt.opsP (S.data.toList.map UInt8.toNat) false ⟨op, 0, 0, 0, 0, sz⟩ [] LT := ⟨_, rfl⟩
              rw [← hO, lnO_parts] at hcall
              have hTO := hT3 O (by rw [hO, hS]; rfl)
              have hnz := (Bx.new w ⟨#[]⟩ ins0 ⟨#[]⟩)
              have HCALL := hide1 (hcall.mono fun e w1 h => (⟨h.1, hide1 (hbw.trans (h.2.mono hbw.size)), hide1 (hnz.more h.2 hnz.lt)⟩ : _ ∧ Hid (Below w.heap.size w w1) ∧ Hid (Bx w1 w.heap.size ⟨#[]⟩ ins0 ⟨#[]⟩)))
              have HTO := hide1 hTO
              unfold lnA lnC ins0 at HCALL
              clear hT3 hs8 hsl hbw hcall hnz hTO hS hO HR HST3 HSD HV hw hs he hp
              go_wp2_with fail
              refine (HRW.out _).mono ?_
              rintro e w1 ⟨rfl, rfl⟩
              go_wp2_with fail
              refine HCALL.out.mono ?_
              rintro e w1 ⟨rfl, HB1, hz0⟩
              clear HCALL HRW
              have HBS : Hid (w.heap.size < w1.heap.size) := hz0.out.lt
              have y0 := hz0.out.c0
              have y1 := hz0.out.c1
              have y2 := hz0.out.c2
              have y3 := hz0.out.c3
              have y4 := hz0.out.c4
              have y5 := hz0.out.c5
              have y6 := hz0.out.c6
              have y7 := hz0.out.c7
              have yf := hz0.out.fro
              have yl := hz0.out.lt
              cases O with
              | none =>
                have hT := hide1 (HTO.out.1 rfl)
                clear HTO
                go_wp2
                refine bodyPost_ret (v := .tuple #[lnA ⟨#[]⟩ ins0 ⟨#[]⟩, .int .i64 6]) (by simp [results, Tryz.results146, go_sem, lnV, lnA, ins0, ln0, y0, y1, y2, y3, y4, y5, y6, y7, yf, yl]) rfl ⟨by rw [hT.out] <;> rfl, ?_⟩
                repeat (first | with_reducible exact Below.refl _ _ | with_reducible exact HB1.out | (with_reducible refine Below.setCell ?_ (by simp) _) | (with_reducible refine Below.alloc ?_ (by simp; have := HBS.out; omega) _))
              | some r =>
                obtain ⟨i1, g1⟩ := r
                have hT := hide1 (HTO.out.2 i1 g1 rfl)
                clear HTO
                obtain ⟨G1, hG1⟩ : ∃ G1, G1 = oG (some (i1, g1)) := ⟨_, rfl⟩
                have HG1 : Hid (G1 = ⟨g1.toArray⟩) := hG1
                have e1 : oN X0 (some (i1, g1)) = X0 := rfl
                have e2 : oI (some (i1, g1)) = i1 := rfl
                rw [← hG1, e1, e2]
                clear hG1 e1 e2
                go_wp2
                refine bodyPost_ret (v := .tuple #[lnA X0 i1 G1, .int .i64 0]) (by simp [results, Tryz.results146, go_sem, lnV, lnA, ins0, ln0, y0, y1, y2, y3, y4, y5, y6, y7, yf, yl]) rfl ⟨by rw [hT.out]; simp only [lnV]; rw [← HG1.out] <;> (first | rfl | rw [← HNM.out]), ?_⟩
                repeat (first | with_reducible exact Below.refl _ _ | with_reducible exact HB1.out | (with_reducible refine Below.setCell ?_ (by simp) _) | (with_reducible refine Below.alloc ?_ (by simp; have := HBS.out; omega) _))
    · rw [decide_eq_false k1] at q1
      have HR : Hid (T = Byt.readR [] L) := by
        show T = _
        rw [HT.out]
        exact readLn_not (fun h => k1 (by rw [← g1]; exact h.2))
      have HST := hw
      have hcD := hcap
      have hlD := hL
      have HSD := hs
      have HNM := hide1 hNM
      go_upto_region 9 with fail
      clear q1 c1' k1 g1 h1 h1' hL hcap hNM HT
      cases L with
      | nil =>
        have hT : Hid (T = (0, ⟨[], ins0, []⟩)) := HR
        clear HR
        go_wp2
        refine bodyPost_ret (v := .tuple #[lnA ⟨#[]⟩ ins0 ⟨#[]⟩, .int .i64 0]) (by simp [results, Tryz.results146, go_sem, lnV, lnA, ins0, ln0]) rfl ⟨by rw [hT.out] <;> simp only [lnV] <;> (first | rfl | rw [← HNM.out]), ?_⟩
        repeat (first | with_reducible exact Below.refl _ _ | with_reducible exact HB1.out | (with_reducible refine Below.setCell ?_ (by simp) _) | (with_reducible refine Below.alloc ?_ (by simp) _))
      | cons t LT =>
        have c0 := HST.out 0 (by simp)
        obtain ⟨X, hX⟩ : ∃ X : ByteArray, X = ⟨t.toArray⟩ := ⟨_, rfl⟩
        have d0 : w.cell? ⟨b, o, none⟩ = some (.string X) := by rw [← Nat.add_zero o, c0, hX]; rfl
        have hXt : X.data.toList = t := by rw [hX]
        have hrw := a_readWord X
        obtain ⟨o3, cap3, hsl3, hc3, hst3⟩ := slice_drop b o cap (t :: LT) 1 1 rfl (by simp) hcD
        have hst3' := hst3 w HST.out
        simp only [List.drop_succ_cons, List.drop_zero] at hsl3 hc3 hst3'
        rw [hXt] at hrw
        obtain ⟨V, hV⟩ : ∃ V, V = Byt.wrd t := ⟨_, rfl⟩
        have hV72 : V.1 ≤ 72 := by rw [hV]; exact wrd_le t
        rw [← hV] at hrw
        obtain ⟨op, sz⟩ := V
        have HRW := hide1 hrw
        have HV := hide1 hV
        have HST3 := hide1 hst3'
        simp only [List.length_cons] at hlD hcD hsl3
        have hne : ((LT.length : Int) + 1 == 0) = false := by simp; omega
        have hne2 : (LT.length + 1 == 0) = false := by simp
        clear c0 hst3 hst3' hrw hV hX hXt HST
        by_cases hz : sz = 0
        · have hT : Hid (T = (5, ln0)) := by
            show T = _
            rw [HR.out]
            exact readR_no _ _ _ (by rw [← HV.out]; exact hz)
          subst hz
          clear HR
          go_wp2_with fail
          refine (HRW.out _).mono ?_
          rintro e w1 ⟨rfl, rfl⟩
          go_wp2
          refine bodyPost_ret (v := .tuple #[lnA ⟨#[]⟩ ins0 ⟨#[]⟩, .int .i64 5]) (by simp [results, Tryz.results146, go_sem, lnV, lnA, ins0, ln0]) rfl ⟨by rw [hT.out] <;> rfl, ?_⟩
          repeat (first | with_reducible exact Below.refl _ _ | with_reducible exact HB1.out | (with_reducible refine Below.setCell ?_ (by simp) _) | (with_reducible refine Below.alloc ?_ (by simp) _))
        · have hz' : ((sz : Int) == 0) = false := by simp; omega
          have hz2 : (sz == 0) = false := by simp; omega
          have hT3 : ∀ O, O = Byt.opsP (Byt.shp op) false ⟨op, 0, 0, 0, 0, sz⟩ [] LT → (O = none → T = (6, ln0)) ∧ (∀ i g, O = some (i, g) → T = (0, ⟨[], i, g⟩)) := by
            intro O hO
            have e1 : (Byt.wrd t).1 = op := by rw [← HV.out]
            have e2 : (Byt.wrd t).2 = sz := by rw [← HV.out]
            refine ⟨fun h => ?_, fun i g h => ?_⟩
            · rw [HR.out]; exact readR_bad _ _ _ (by rw [e2]; exact hz) (by rw [e1, e2, ← hO]; exact h)
            · rw [HR.out]; exact readR_yes _ _ _ (by rw [e2]; exact hz) (by rw [e1, e2, ← hO]; exact h)
          obtain ⟨S, hS⟩ : ∃ S, S = Nm.shape op := ⟨_, rfl⟩
          have hs8 := (shape_ok op hV72).1
          have hsl := (shape_ok op hV72).2
          rw [← hS] at hs8
          have hbw : Below w.heap.size w (w.alloc (lnC ⟨#[]⟩ ins0 ⟨#[]⟩)) := (Below.refl _ _).alloc (Nat.le_refl _) _
          have hcall := a_readOperands ⟨#[]⟩ ⟨op, 0, 0, 0, 0, sz⟩ [] S (hide1 hS.symm) hs8 (by rw [hS]; exact hide1 hsl) b o3 cap3 LT (by omega) _ (StrsAt.more HST3 hb hbw) (Nat.lt_of_lt_of_le hb hbw.size) (hide1 (fun t ht => HSD.out t (List.mem_cons_of_mem _ ht)))
          obtain ⟨O, hO⟩ : ∃ O, O = Byt.opsP (S.data.toList.map UInt8.toNat) false ⟨op, 0, 0, 0, 0, sz⟩ [] LT := ⟨_, rfl⟩
          rw [← hO, lnO_parts] at hcall
          have hTO := hT3 O (by rw [hO, hS]; rfl)
          have hnz := (Bx.new w ⟨#[]⟩ ins0 ⟨#[]⟩)
          have HCALL := hide1 (hcall.mono fun e w1 h => (⟨h.1, hide1 (hbw.trans (h.2.mono hbw.size)), hide1 (hnz.more h.2 hnz.lt)⟩ : _ ∧ Hid (Below w.heap.size w w1) ∧ Hid (Bx w1 w.heap.size ⟨#[]⟩ ins0 ⟨#[]⟩)))
          have HTO := hide1 hTO
          unfold lnA lnC ins0 at HCALL
          clear hT3 hs8 hsl hbw hcall hnz hTO hS hO HR HST3 HSD HV hw hs he hp
          go_wp2_with fail
          refine (HRW.out _).mono ?_
          rintro e w1 ⟨rfl, rfl⟩
          go_wp2_with fail
          refine HCALL.out.mono ?_
          rintro e w1 ⟨rfl, HB1, hz0⟩
          clear HCALL HRW
          have HBS : Hid (w.heap.size < w1.heap.size) := hz0.out.lt
          have y0 := hz0.out.c0
          have y1 := hz0.out.c1
          have y2 := hz0.out.c2
          have y3 := hz0.out.c3
          have y4 := hz0.out.c4
          have y5 := hz0.out.c5
          have y6 := hz0.out.c6
          have y7 := hz0.out.c7
          have yf := hz0.out.fro
          have yl := hz0.out.lt
          cases O with
          | none =>
            have hT := hide1 (HTO.out.1 rfl)
            clear HTO
            go_wp2
            refine bodyPost_ret (v := .tuple #[lnA ⟨#[]⟩ ins0 ⟨#[]⟩, .int .i64 6]) (by simp [results, Tryz.results146, go_sem, lnV, lnA, ins0, ln0, y0, y1, y2, y3, y4, y5, y6, y7, yf, yl]) rfl ⟨by rw [hT.out] <;> rfl, ?_⟩
            repeat (first | with_reducible exact Below.refl _ _ | with_reducible exact HB1.out | (with_reducible refine Below.setCell ?_ (by simp) _) | (with_reducible refine Below.alloc ?_ (by simp; have := HBS.out; omega) _))
          | some r =>
            obtain ⟨i1, g1⟩ := r
            have hT := hide1 (HTO.out.2 i1 g1 rfl)
            clear HTO
            obtain ⟨G1, hG1⟩ : ∃ G1, G1 = oG (some (i1, g1)) := ⟨_, rfl⟩
            have HG1 : Hid (G1 = ⟨g1.toArray⟩) := hG1
            have e1 : oN ⟨#[]⟩ (some (i1, g1)) = ⟨#[]⟩ := rfl
            have e2 : oI (some (i1, g1)) = i1 := rfl
            rw [← hG1, e1, e2]
            clear hG1 e1 e2
            go_wp2
            refine bodyPost_ret (v := .tuple #[lnA ⟨#[]⟩ i1 G1, .int .i64 0]) (by simp [results, Tryz.results146, go_sem, lnV, lnA, ins0, ln0, y0, y1, y2, y3, y4, y5, y6, y7, yf, yl]) rfl ⟨by rw [hT.out]; simp only [lnV]; rw [← HG1.out] <;> (first | rfl | rw [← HNM.out]), ?_⟩
            repeat (first | with_reducible exact Below.refl _ _ | with_reducible exact HB1.out | (with_reducible refine Below.setCell ?_ (by simp) _) | (with_reducible refine Below.alloc ?_ (by simp; have := HBS.out; omega) _))
  · have h1' : decide (1 < (L.length : Int)) = false := by simp; omega
    have HR : Hid (T = Byt.readR [] L) := by
      show T = _
      rw [HT.out]
      exact readLn_not (fun h => h1 h.1)
    have HST := hw
    have hcD := hcap
    have hlD := hL
    have HSD := hs
    have HNM := hide1 hNM
    go_upto_region 9 with fail
    clear h1 h1' hL hcap hNM HT
    cases L with
    | nil =>
      have hT : Hid (T = (0, ⟨[], ins0, []⟩)) := HR
      clear HR
      go_wp2
      refine bodyPost_ret (v := .tuple #[lnA ⟨#[]⟩ ins0 ⟨#[]⟩, .int .i64 0]) (by simp [results, Tryz.results146, go_sem, lnV, lnA, ins0, ln0]) rfl ⟨by rw [hT.out] <;> simp only [lnV] <;> (first | rfl | rw [← HNM.out]), ?_⟩
      repeat (first | with_reducible exact Below.refl _ _ | with_reducible exact HB1.out | (with_reducible refine Below.setCell ?_ (by simp) _) | (with_reducible refine Below.alloc ?_ (by simp) _))
    | cons t LT =>
      have c0 := HST.out 0 (by simp)
      obtain ⟨X, hX⟩ : ∃ X : ByteArray, X = ⟨t.toArray⟩ := ⟨_, rfl⟩
      have d0 : w.cell? ⟨b, o, none⟩ = some (.string X) := by rw [← Nat.add_zero o, c0, hX]; rfl
      have hXt : X.data.toList = t := by rw [hX]
      have hrw := a_readWord X
      obtain ⟨o3, cap3, hsl3, hc3, hst3⟩ := slice_drop b o cap (t :: LT) 1 1 rfl (by simp) hcD
      have hst3' := hst3 w HST.out
      simp only [List.drop_succ_cons, List.drop_zero] at hsl3 hc3 hst3'
      rw [hXt] at hrw
      obtain ⟨V, hV⟩ : ∃ V, V = Byt.wrd t := ⟨_, rfl⟩
      have hV72 : V.1 ≤ 72 := by rw [hV]; exact wrd_le t
      rw [← hV] at hrw
      obtain ⟨op, sz⟩ := V
      have HRW := hide1 hrw
      have HV := hide1 hV
      have HST3 := hide1 hst3'
      simp only [List.length_cons] at hlD hcD hsl3
      have hne : ((LT.length : Int) + 1 == 0) = false := by simp; omega
      have hne2 : (LT.length + 1 == 0) = false := by simp
      clear c0 hst3 hst3' hrw hV hX hXt HST
      by_cases hz : sz = 0
      · have hT : Hid (T = (5, ln0)) := by
          show T = _
          rw [HR.out]
          exact readR_no _ _ _ (by rw [← HV.out]; exact hz)
        subst hz
        clear HR
        go_wp2_with fail
        refine (HRW.out _).mono ?_
        rintro e w1 ⟨rfl, rfl⟩
        go_wp2
        refine bodyPost_ret (v := .tuple #[lnA ⟨#[]⟩ ins0 ⟨#[]⟩, .int .i64 5]) (by simp [results, Tryz.results146, go_sem, lnV, lnA, ins0, ln0]) rfl ⟨by rw [hT.out] <;> rfl, ?_⟩
        repeat (first | with_reducible exact Below.refl _ _ | with_reducible exact HB1.out | (with_reducible refine Below.setCell ?_ (by simp) _) | (with_reducible refine Below.alloc ?_ (by simp) _))
      · have hz' : ((sz : Int) == 0) = false := by simp; omega
        have hz2 : (sz == 0) = false := by simp; omega
        have hT3 : ∀ O, O = Byt.opsP (Byt.shp op) false ⟨op, 0, 0, 0, 0, sz⟩ [] LT → (O = none → T = (6, ln0)) ∧ (∀ i g, O = some (i, g) → T = (0, ⟨[], i, g⟩)) := by
          intro O hO
          have e1 : (Byt.wrd t).1 = op := by rw [← HV.out]
          have e2 : (Byt.wrd t).2 = sz := by rw [← HV.out]
          refine ⟨fun h => ?_, fun i g h => ?_⟩
          · rw [HR.out]; exact readR_bad _ _ _ (by rw [e2]; exact hz) (by rw [e1, e2, ← hO]; exact h)
          · rw [HR.out]; exact readR_yes _ _ _ (by rw [e2]; exact hz) (by rw [e1, e2, ← hO]; exact h)
        obtain ⟨S, hS⟩ : ∃ S, S = Nm.shape op := ⟨_, rfl⟩
        have hs8 := (shape_ok op hV72).1
        have hsl := (shape_ok op hV72).2
        rw [← hS] at hs8
        have hbw : Below w.heap.size w (w.alloc (lnC ⟨#[]⟩ ins0 ⟨#[]⟩)) := (Below.refl _ _).alloc (Nat.le_refl _) _
        have hcall := a_readOperands ⟨#[]⟩ ⟨op, 0, 0, 0, 0, sz⟩ [] S (hide1 hS.symm) hs8 (by rw [hS]; exact hide1 hsl) b o3 cap3 LT (by omega) _ (StrsAt.more HST3 hb hbw) (Nat.lt_of_lt_of_le hb hbw.size) (hide1 (fun t ht => HSD.out t (List.mem_cons_of_mem _ ht)))
        obtain ⟨O, hO⟩ : ∃ O, O = Byt.opsP (S.data.toList.map UInt8.toNat) false ⟨op, 0, 0, 0, 0, sz⟩ [] LT := ⟨_, rfl⟩
        rw [← hO, lnO_parts] at hcall
        have hTO := hT3 O (by rw [hO, hS]; rfl)
        have hnz := (Bx.new w ⟨#[]⟩ ins0 ⟨#[]⟩)
        have HCALL := hide1 (hcall.mono fun e w1 h => (⟨h.1, hide1 (hbw.trans (h.2.mono hbw.size)), hide1 (hnz.more h.2 hnz.lt)⟩ : _ ∧ Hid (Below w.heap.size w w1) ∧ Hid (Bx w1 w.heap.size ⟨#[]⟩ ins0 ⟨#[]⟩)))
        have HTO := hide1 hTO
        unfold lnA lnC ins0 at HCALL
        clear hT3 hs8 hsl hbw hcall hnz hTO hS hO HR HST3 HSD HV hw hs he hp
        go_wp2_with fail
        refine (HRW.out _).mono ?_
        rintro e w1 ⟨rfl, rfl⟩
        go_wp2_with fail
        refine HCALL.out.mono ?_
        rintro e w1 ⟨rfl, HB1, hz0⟩
        clear HCALL HRW
        have HBS : Hid (w.heap.size < w1.heap.size) := hz0.out.lt
        have y0 := hz0.out.c0
        have y1 := hz0.out.c1
        have y2 := hz0.out.c2
        have y3 := hz0.out.c3
        have y4 := hz0.out.c4
        have y5 := hz0.out.c5
        have y6 := hz0.out.c6
        have y7 := hz0.out.c7
        have yf := hz0.out.fro
        have yl := hz0.out.lt
        cases O with
        | none =>
          have hT := hide1 (HTO.out.1 rfl)
          clear HTO
          go_wp2
          refine bodyPost_ret (v := .tuple #[lnA ⟨#[]⟩ ins0 ⟨#[]⟩, .int .i64 6]) (by simp [results, Tryz.results146, go_sem, lnV, lnA, ins0, ln0, y0, y1, y2, y3, y4, y5, y6, y7, yf, yl]) rfl ⟨by rw [hT.out] <;> rfl, ?_⟩
          repeat (first | with_reducible exact Below.refl _ _ | with_reducible exact HB1.out | (with_reducible refine Below.setCell ?_ (by simp) _) | (with_reducible refine Below.alloc ?_ (by simp; have := HBS.out; omega) _))
        | some r =>
          obtain ⟨i1, g1⟩ := r
          have hT := hide1 (HTO.out.2 i1 g1 rfl)
          clear HTO
          obtain ⟨G1, hG1⟩ : ∃ G1, G1 = oG (some (i1, g1)) := ⟨_, rfl⟩
          have HG1 : Hid (G1 = ⟨g1.toArray⟩) := hG1
          have e1 : oN ⟨#[]⟩ (some (i1, g1)) = ⟨#[]⟩ := rfl
          have e2 : oI (some (i1, g1)) = i1 := rfl
          rw [← hG1, e1, e2]
          clear hG1 e1 e2
          go_wp2
          refine bodyPost_ret (v := .tuple #[lnA ⟨#[]⟩ i1 G1, .int .i64 0]) (by simp [results, Tryz.results146, go_sem, lnV, lnA, ins0, ln0, y0, y1, y2, y3, y4, y5, y6, y7, yf, yl]) rfl ⟨by rw [hT.out]; simp only [lnV]; rw [← HG1.out] <;> (first | rfl | rw [← HNM.out]), ?_⟩
          repeat (first | with_reducible exact Below.refl _ _ | with_reducible exact HB1.out | (with_reducible refine Below.setCell ?_ (by simp) _) | (with_reducible refine Below.alloc ?_ (by simp; have := HBS.out; omega) _))
end Go.Proofs.YthfofjkfbhahoaaGreatDoor
end
