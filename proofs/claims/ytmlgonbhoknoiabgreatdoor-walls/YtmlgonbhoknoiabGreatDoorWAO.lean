import Derived.Test.YtmlgonbhoknoiabGreatDoorWAN
set_option maxHeartbeats 8000000
set_option linter.all false
namespace Go.Proofs.YtmlgonbhoknoiabGreatDoor
open Go.RowKit Go.Proofs.Tryz
theorem shapes_ok : ((List.range 73).all fun n => decide ((Nm.shape n).size <= 8) && (Nm.shape n).data.toList.all fun c => c.toNat == 100 || c.toNat == 115 || c.toNat == 116 || c.toNat == 109 || c.toNat == 106 || c.toNat == 117 || c.toNat == 105) = true := by decide +kernel
theorem shape_ok (n : Nat) (h : n <= 72) : (Nm.shape n).size <= 8 /\ ∀ k (h : k < (Nm.shape n).size), (Nm.shape n)[k].toNat = 100 \/ (Nm.shape n)[k].toNat = 115 \/ (Nm.shape n)[k].toNat = 116 \/ (Nm.shape n)[k].toNat = 109 \/ (Nm.shape n)[k].toNat = 106 \/ (Nm.shape n)[k].toNat = 117 \/ (Nm.shape n)[k].toNat = 105 := by
 have h1 := List.all_eq_true.1 shapes_ok n (by simp; omega)
 rw [Bool.and_eq_true, decide_eq_true_eq, List.all_eq_true] at h1
 refine ⟨h1.1, fun k hk => ?_⟩
 have h2 := h1.2 (Nm.shape n)[k] (by
  have : (Nm.shape n)[k] = (Nm.shape n).data.toList[k]'(by rw [Array.length_toList]; exact hk) := rfl
  rw [this]; exact List.getElem_mem _)
 simp only [Bool.or_eq_true, beq_iff_eq] at h2
 omega
theorem wrdFrom_le (t : List UInt8) : ∀ f op, (Byt.wrdFrom t f op).1 < op + f \/ (Byt.wrdFrom t f op) = (0, 0)
 | 0, op => .inr rfl
 | f + 1, op => by
  have ih := wrdFrom_le t f (op + 1)
  unfold Byt.wrdFrom
  split
  . left; simp
  . split
    . left; simp
    . rcases ih with h | h
      . left; omega
      . right; exact h
theorem wrd_le (t : List UInt8) : (Byt.wrd t).1 <= 72 := by
 unfold Byt.wrd
 split
 . decide
 . split
   . decide
   . rcases wrdFrom_le t 70 1 with h | h
     . omega
     . rw [h]; decide
theorem slice_drop (b o cap : Nat) (L : List (List UInt8)) (k : Nat) (n : Int) (hn : n = k) (hk : k <= L.length) (hcap : L.length <= cap) : ∃ o' cap', (∀ w, (Instr.slice 162 (.slice (some ⟨b, o, none⟩) L.length cap) (some (.int .i64 n)) none none).run prog w = .ok (.slice (some ⟨b, o', none⟩) (L.drop k).length cap') w) /\ (L.drop k).length <= cap' /\ (∀ w, StrsAt w b o L -> StrsAt w b o' (L.drop k)) := by
 have hr : ∀ w, (Instr.slice 162 (.slice (some ⟨b, o, none⟩) L.length cap) (some (.int .i64 n)) none none).run prog w = .ok (.slice (if cap = k then some ⟨b, o, none⟩ else some ⟨b, o + k, none⟩) (L.drop k).length (cap - k)) w := by
  intro w
  have hu : prog.underlying 162 = some (.slice (prog.elem 162)) := by kernel_rfl
  have h := run_slice_l (P := prog) w 162 (some ⟨b, o, none⟩) L.length cap hu .i64 n (by omega) (by omega)
  rw [h]
  have hz : (_root_.Go.sizeOf (prog.elem 162)).run prog w = .ok 1 w := by kernel_rfl
  rw [hz]
  simp only [Result.andThen, sliced, List.length_drop]
  rw [show n.toNat = k by omega, Nat.mul_one, Option.map_some, show (⟨b, o, none⟩ : Addr).add k = ⟨b, o + k, none⟩ by simp [Addr.add]]
 by_cases hc : cap = k
 . refine ⟨o, cap - k, fun w => by rw [hr w, if_pos hc], by rw [List.length_drop]; omega, fun w _ j hj => ?_⟩
   rw [List.length_drop] at hj; omega
 . exact ⟨o + k, cap - k, fun w => by rw [hr w, if_neg hc], by rw [List.length_drop]; omega, fun w h => h.drop k⟩
theorem Cx.below {w w' : World} {b o n : Nat} {l : Ln} (h : Cx w b o l) (hb : Below n w w') (hn : b < n) : Cx w' b o l :=
 ⟨(hb.cell (p := ⟨b, o, none⟩) hn).trans h.c0, (hb.cell (p := ⟨b, o + 1, none⟩) hn).trans h.c1, (hb.cell (p := ⟨b, o + 2, none⟩) hn).trans h.c2, (hb.cell (p := ⟨b, o + 3, none⟩) hn).trans h.c3, (hb.cell (p := ⟨b, o + 4, none⟩) hn).trans h.c4, (hb.cell (p := ⟨b, o + 5, none⟩) hn).trans h.c5, (hb.cell (p := ⟨b, o + 6, none⟩) hn).trans h.c6, (hb.cell (p := ⟨b, o + 7, none⟩) hn).trans h.c7⟩
theorem LnsAt.below {w w' : World} {p : Option Addr} {n : Nat} {L : List Ln} (h : LnsAt w p L) (hb : Below n w w') (hn : ∀ a, p = some a -> a.block < n) : LnsAt w' p L := by
 rcases h with h | ⟨b, rfl, h⟩
 . exact .inl h
 . exact .inr ⟨b, rfl, fun j hj => (h j hj).below hb (hn _ rfl)⟩
theorem readR_no (nm : List UInt8) (t : List UInt8) (LT : List (List UInt8)) (h : (Byt.wrd t).2 = 0) : Byt.readR nm (t :: LT) = (5, ln0) := by
 unfold Byt.readR; simp only; rw [if_pos h]
theorem readR_bad (nm : List UInt8) (t : List UInt8) (LT : List (List UInt8)) (h : ¬ (Byt.wrd t).2 = 0) (ho : Byt.opsP (Byt.shp (Byt.wrd t).1) false ⟨(Byt.wrd t).1, 0, 0, 0, 0, (Byt.wrd t).2⟩ [] LT = none) : Byt.readR nm (t :: LT) = (6, ln0) := by
 unfold Byt.readR; simp only; rw [if_neg h, ho]
theorem readR_yes (nm : List UInt8) (t : List UInt8) (LT : List (List UInt8)) (h : ¬ (Byt.wrd t).2 = 0) {i : Ins} {g : List UInt8} (ho : Byt.opsP (Byt.shp (Byt.wrd t).1) false ⟨(Byt.wrd t).1, 0, 0, 0, 0, (Byt.wrd t).2⟩ [] LT = some (i, g)) : Byt.readR nm (t :: LT) = (0, ⟨nm, i, g⟩) := by
 unfold Byt.readR; simp only; rw [if_neg h, ho]
theorem readLn_not {L : List (List UInt8)} {E : List Ln} (h : ¬ (1 < L.length /\ L[1]?.getD [] = [58])) : Byt.readLn L E = Byt.readR [] L := by
 unfold Byt.readLn; rw [if_neg h]
theorem readLn_word {L : List (List UInt8)} {E : List Ln} (h : 1 < L.length /\ L[1]?.getD [] = [58]) (hn : ¬ Byt.isName (L[0]?.getD []) = true) : Byt.readLn L E = (5, ln0) := by
 unfold Byt.readLn; rw [if_pos h, if_neg hn]
theorem readLn_twice {L : List (List UInt8)} {E : List Ln} (h : 1 < L.length /\ L[1]?.getD [] = [58]) (hn : Byt.isName (L[0]?.getD []) = true) (hf : Byt.findN E (L[0]?.getD []) < E.length) : Byt.readLn L E = (9, ln0) := by
 unfold Byt.readLn; rw [if_pos h, if_pos hn, if_pos hf]
theorem readLn_yes {L : List (List UInt8)} {E : List Ln} (h : 1 < L.length /\ L[1]?.getD [] = [58]) (hn : Byt.isName (L[0]?.getD []) = true) (hf : ¬ Byt.findN E (L[0]?.getD []) < E.length) : Byt.readLn L E = Byt.readR (L[0]?.getD []) (L.drop 2) := by
 unfold Byt.readLn; rw [if_pos h, if_pos hn, if_neg hf]
theorem a_readLine (b o cap : Nat) (L : List (List UInt8)) (hL : L.length <= 5000) (hcap : L.length <= cap) (p : Option Addr) (cape : Nat) (E : List Ln) (hE : E.length <= 5000) (w : World) (hw : Hid (StrsAt w b o L)) (hb : b < w.heap.size) (hs : Hid (Short L)) (he : Hid (LnsAt w p E)) (hp : Hid (∀ a, p = some a -> a.block < w.heap.size)) :
 CB 152 #[.slice (some ⟨b, o, none⟩) L.length cap, .slice p E.length cape] (.tuple #[lnV (Byt.readLn L E).2, .int .i64 (Byt.readLn L E).1]) w := by
 obtain ⟨T, hT⟩ := zn1 (Byt.readLn L E)
 rw [<- hT]
 have HT := hide1 hT
 clear hT
 obtain ⟨NM, hNM⟩ := zn1 (⟨#[]⟩ : ByteArray)
 go_enter func152, ntmps152
 by_cases h1 : 1 < L.length
 . have h1' : decide (1 < (L.length : Int)) = true := by simp; omega
   have c1 := hw.out 1 h1
   obtain ⟨X1, hX1⟩ := zn1 (⟨(L[1]).toArray⟩ : ByteArray)
   have c1' : w.cell? ⟨b, o + 1, none⟩ = some (.string X1) := by rw [c1, hX1]; rfl
   have g1 : L[1]?.getD [] = X1.data.toList := by rw [hX1, List.getElem?_eq_getElem h1]; rfl
   have q1 : (X1.toList == [58]) = decide (X1.data.toList = [58]) := eq_lit X1 [58]
   clear c1 hX1
   by_cases k1 : X1.data.toList = [58]
   . rw [decide_eq_true k1] at q1
     have c0 := hw.out 0 (by omega)
     obtain ⟨X0, hX0⟩ := zn1 (⟨(L[0]).toArray⟩ : ByteArray)
     have c0' : w.cell? ⟨b, o, none⟩ = some (.string X0) := by rw [<- Nat.add_zero o, c0, hX0]; rfl
     have hm : (L[0]'(by omega)).length <= 5000 := hs.out _ (List.getElem_mem _)
     have s0 : X0.size <= 5000 := by rw [hX0]; exact hm
     have g0 : L[0]?.getD [] = X0.data.toList := by rw [hX0, List.getElem?_eq_getElem (by omega)]; rfl
     have hX0' : X0 = ⟨X0.data.toList.toArray⟩ := (mk_list X0).symm
     have HNM := hide1 hX0'
     clear c0 hX0 hm hX0'
     obtain ⟨o2, cap2, hsl, hc2, hst⟩ := slice_drop b o cap L 2 2 rfl (by omega) hcap
     have HST := hide1 (hst w hw.out)
     have HSD : Hid (Short (L.drop 2)) := fun t ht => hs.out t (List.mem_of_mem_drop ht)
     have hlD : (L.drop 2).length <= 5000 := by rw [List.length_drop]; omega
     have hco : 1 < L.length /\ L[1]?.getD [] = [58] := ⟨h1, by rw [g1]; exact k1⟩
     have HG := hide1 (And.intro hco g0)
     obtain ⟨LD, hLD⟩ := zn1 (L.drop 2)
     have HLD := hide1 hLD
     rw [<- hLD] at HST HSD hlD hsl hc2
     have hcD := hc2
     clear hLD hst hc2 g1 k1 hco g0
     cases kn : Byt.isName X0.data.toList
     . have hT : Hid (T = (5, ln0)) := by
        show T = _
        rw [HT.out]
        exact readLn_word HG.out.1 (by rw [HG.out.2, kn]; decide)
       go_wp2_with fail
       refine (a_isName X0 s0 _).mono ?_
       rintro e w1 ⟨rfl, rfl⟩
       rw [kn]
       clear q1 c1'
       exact zq352
     . have hbw : Below w.heap.size w (w.alloc (lnC ⟨#[]⟩ ins0 ⟨#[]⟩)) := zq135
       have hfn := a_findName p cape E hE X0 _ (hide1 (he.out.below hbw hp.out))
       obtain ⟨F, hF⟩ := zn1 (Byt.findN E X0.data.toList)
       rw [<- hF] at hfn
       have HF := hide1 hF
       have HFN := hide1 hfn
       unfold lnC ins0 at HFN
       clear hfn hF hbw
       by_cases hfe : F < E.length
       . have hT : Hid (T = (9, ln0)) := by
          show T = _
          rw [HT.out]
          exact readLn_twice HG.out.1 (by rw [HG.out.2, kn]) (by rw [HG.out.2, <- HF.out]; exact hfe)
         have hfe' : decide ((F : Int) < (E.length : Int)) = true := by simp; omega
         go_wp2_with fail
         refine (a_isName X0 s0 _).mono ?_
         rintro e w1 ⟨rfl, rfl⟩
         rw [kn]
         clear q1 c1'
         go_wp2_with fail
         refine HFN.out.mono ?_
         rintro e w1 ⟨rfl, rfl⟩
         go_wp2
         refine bodyPost_ret (v := .tuple #[lnA ⟨#[]⟩ ins0 ⟨#[]⟩, .int .i64 9]) zq514 rfl ⟨by rw [hT.out] <;> rfl, ?_⟩
         exact zq353
       . have HR : Hid (T = Byt.readR X0.data.toList LD) := by
          show T = _
          rw [HT.out, HLD.out, <- HG.out.2]
          exact readLn_yes HG.out.1 (by rw [HG.out.2, kn]) (by rw [HG.out.2, <- HF.out]; exact hfe)
         have hfe' : decide ((F : Int) < (E.length : Int)) = false := by simp; omega
         go_wp2_with fail
         refine (a_isName X0 s0 _).mono ?_
         rintro e w1 ⟨rfl, rfl⟩
         rw [kn]
         clear q1 c1'
         go_upto_region 7 with fail
         go_wp2_with fail
         refine HFN.out.mono ?_
         rintro e w1 ⟨rfl, rfl⟩
         clear HFN HF kn HG HLD HT c0' s0
         go_upto_region 9 with fail
         clear hfe hfe' h1 h1' hsl
         cases LD with
         | nil =>
          have hT : Hid (T = (0, ⟨X0.data.toList, ins0, []⟩)) := HR
          clear HR
          go_wp2
          refine bodyPost_ret (v := .tuple #[lnA X0 ins0 ⟨#[]⟩, .int .i64 0]) zq514 rfl ⟨by rw [hT.out] <;> simp only [lnV] <;> (first | rfl | rw [<- HNM.out]), ?_⟩
          repeat (first | with_reducible exact Below.refl _ _ | with_reducible exact HB1.out | (with_reducible refine Below.setCell ?_ (by simp) _) | (with_reducible refine Below.alloc ?_ (by simp) _))
         | cons t LT =>
          have c0 := HST.out 0 (by simp)
          obtain ⟨X, hX⟩ := zn1 (⟨t.toArray⟩ : ByteArray)
          have d0 : w.cell? ⟨b, o2, none⟩ = some (.string X) := by rw [<- Nat.add_zero o2, c0, hX]; rfl
          have hXt : X.data.toList = t := by rw [hX]
          have hrw := a_readWord X
          obtain ⟨o3, cap3, hsl3, hc3, hst3⟩ := slice_drop b o2 cap2 (t :: LT) 1 1 rfl (by simp) hcD
          have hst3' := hst3 w HST.out
          simp only [List.drop_succ_cons, List.drop_zero] at hsl3 hc3 hst3'
          rw [hXt] at hrw
          obtain ⟨V, hV⟩ := zn1 (Byt.wrd t)
          have hV72 : V.1 <= 72 := by rw [hV]; exact wrd_le t
          rw [<- hV] at hrw
          obtain ⟨op, sz⟩ := V
          have HRW := hide1 hrw
          have HV := hide1 hV
          have HST3 := hide1 hst3'
          simp only [List.length_cons] at hlD hcD hsl3
          have hne : ((LT.length : Int) + 1 == 0) = false := by simp; omega
          have hne2 : (LT.length + 1 == 0) = false := by simp
          clear c0 hst3 hst3' hrw hV hX hXt HST
          by_cases hz : sz = 0
          . exact zq354
          . have hz' : ((sz : Int) == 0) = false := by simp; omega
            have hz2 : (sz == 0) = false := by simp; omega
            have hT3 : ∀ O, O = Byt.opsP (Byt.shp op) false ⟨op, 0, 0, 0, 0, sz⟩ [] LT -> (O = none -> T = (6, ln0)) /\ (∀ i g, O = some (i, g) -> T = (0, ⟨X0.data.toList, i, g⟩)) := by
             intro O hO
             have e1 : (Byt.wrd t).1 = op := by rw [<- HV.out]
             have e2 : (Byt.wrd t).2 = sz := by rw [<- HV.out]
             refine ⟨fun h => ?_, fun i g h => ?_⟩
             . exact zq355
             . exact zq356
            obtain ⟨S, hS⟩ := zn1 (Nm.shape op)
            have hs8 := (shape_ok op hV72).1
            have hsl := (shape_ok op hV72).2
            rw [<- hS] at hs8
            have hbw : Below w.heap.size w (w.alloc (lnC ⟨#[]⟩ ins0 ⟨#[]⟩)) := zq135
            have hcall := a_readOperands X0 ⟨op, 0, 0, 0, 0, sz⟩ [] S (hide1 hS.symm) hs8 (by rw [hS]; exact hide1 hsl) b o3 cap3 LT (by omega) _ (StrsAt.more HST3 hb hbw) (Nat.lt_of_lt_of_le hb hbw.size) (hide1 (fun t ht => HSD.out t (List.mem_cons_of_mem _ ht)))
            obtain ⟨O, hO⟩ := zn1 (Byt.opsP (S.data.toList.map UInt8.toNat) false ⟨op, 0, 0, 0, 0, sz⟩ [] LT)
            rw [<- hO, lnO_parts] at hcall
            have hTO := hT3 O (by rw [hO, hS]; rfl)
            have hnz := (Bx.new w ⟨#[]⟩ ins0 ⟨#[]⟩)
            have HCALL := hide1 (hcall.mono fun e w1 h => (⟨h.1, hide1 (hbw.trans (h.2.mono hbw.size)), hide1 (hnz.more h.2 hnz.lt)⟩ : _ /\ Hid (Below w.heap.size w w1) /\ Hid (Bx w1 w.heap.size ⟨#[]⟩ ins0 ⟨#[]⟩)))
            have HTO := hide1 hTO
            unfold lnA lnC ins0 at HCALL
            clear hT3 hs8 hsl hbw hcall hnz hTO hS hO HR HST3 HSD HV hw hs he hp
            go_wp2_with fail
            refine (HRW.out _).mono ?_
            rintro e w1 ⟨rfl, rfl⟩
            go_wp2_with fail
            refine HCALL.out.mono ?_
            rintro e w1 ⟨rfl, HB1, hz0⟩
            clear HCALL HRW
            have HBS : Hid (w.heap.size < w1.heap.size) := hz0.out.lt
            have y0 := hz0.out.c0
            have y1 := hz0.out.c1
            have y2 := hz0.out.c2
            have y3 := hz0.out.c3
            have y4 := hz0.out.c4
            have y5 := hz0.out.c5
            have y6 := hz0.out.c6
            have y7 := hz0.out.c7
            have yf := hz0.out.fro
            have yl := hz0.out.lt
            cases O with
            | none =>
             have hT := hide1 (HTO.out.1 rfl)
             clear HTO
             go_wp2
             refine bodyPost_ret (v := .tuple #[lnA ⟨#[]⟩ ins0 ⟨#[]⟩, .int .i64 6]) zq515 rfl ⟨by rw [hT.out] <;> rfl, ?_⟩
             repeat (first | with_reducible exact Below.refl _ _ | with_reducible exact HB1.out | (with_reducible refine Below.setCell ?_ (by simp) _) | (with_reducible refine Below.alloc ?_ zq516 _))
            | some r =>
             obtain ⟨i1, g1⟩ := r
             have hT := hide1 (HTO.out.2 i1 g1 rfl)
             clear HTO
             obtain ⟨G1, hG1⟩ := zn1 (oG (some (i1, g1)))
             have HG1 : Hid (G1 = ⟨g1.toArray⟩) := hG1
             have e1 : oN X0 (some (i1, g1)) = X0 := rfl
             have e2 : oI (some (i1, g1)) = i1 := rfl
             rw [<- hG1, e1, e2]
             clear hG1 e1 e2
             go_wp2
             refine bodyPost_ret (v := .tuple #[lnA X0 i1 G1, .int .i64 0]) zq515 rfl ⟨by rw [hT.out]; simp only [lnV]; rw [<- HG1.out] <;> (first | rfl | rw [<- HNM.out]), ?_⟩
             repeat (first | with_reducible exact Below.refl _ _ | with_reducible exact HB1.out | (with_reducible refine Below.setCell ?_ (by simp) _) | (with_reducible refine Below.alloc ?_ zq516 _))
   . rw [decide_eq_false k1] at q1
     have HR : Hid (T = Byt.readR [] L) := by
      show T = _
      rw [HT.out]
      exact readLn_not (fun h => k1 (by rw [<- g1]; exact h.2))
     have HST := hw
     have hcD := hcap
     have hlD := hL
     have HSD := hs
     have HNM := hide1 hNM
     go_upto_region 9 with fail
     clear q1 c1' k1 g1 h1 h1' hL hcap hNM HT
     exact zq357
 . have h1' : decide (1 < (L.length : Int)) = false := by simp; omega
   have HR : Hid (T = Byt.readR [] L) := by
    show T = _
    rw [HT.out]
    exact readLn_not (fun h => h1 h.1)
   have HST := hw
   have hcD := hcap
   have hlD := hL
   have HSD := hs
   have HNM := hide1 hNM
   go_upto_region 9 with fail
   clear h1 h1' hL hcap hNM HT
   exact zq357
def lnL (l : Ln) : List Value := [.string ⟨l.nm.toArray⟩, .int .i64 l.i.op, .int .i64 l.i.rd, .int .i64 l.i.rs1, .int .i64 l.i.rs2, .int .i64 l.i.im, .int .i64 l.i.ln, .string ⟨l.tg.toArray⟩]
def lnR (E : List Ln) : List Value := E.flatMap lnL
theorem lnR_app (E : List Ln) (l : Ln) : lnR (E ++ [l]) = lnR E ++ lnL l := by simp [lnR]
theorem lnR_get : ∀ (E : List Ln) (j : Nat) (h : j < E.length) (f : Nat), f < 8 -> (lnR E)[j * 8 + f]? = (lnL E[j])[f]?
 | [], j, h, f, hf => by simp at h
 | l :: E, 0, h, f, hf => by
  have : lnR (l :: E) = lnL l ++ lnR E := by simp [lnR]
  rw [this, Nat.zero_mul, Nat.zero_add, List.getElem?_append_left (by simp [lnL]; omega)]; rfl
 | l :: E, j + 1, h, f, hf => by
  have : lnR (l :: E) = lnL l ++ lnR E := by simp [lnR]
  have hl : (lnL l).length = 8 := rfl
  rw [this, List.getElem?_append_right (by rw [hl]; omega), hl, show (j + 1) * 8 + f - 8 = j * 8 + f by omega, lnR_get E j (by simpa using h) f hf]; rfl
theorem own_more {W W' : World} {B e size n : Nat} {v : Value} {xs : List Value} (h : W.ownsRow B e size v n xs) (hb : Below W.heap.size W W') : W'.ownsRow B e size v n xs := by
 refine ⟨h.1, ?_⟩
 rcases h.2 with h' | ⟨g, cap, cur, hv, hB, hg, h1, h2, h3, h4⟩
 . exact .inl h'
 . exact .inr ⟨g, cap, cur, hv, hB, by rw [hb.block g (Array.getElem?_eq_some_iff.1 hg).1]; exact hg, h1, h2, h3, h4⟩
theorem lns_own {w : World} {base : Nat} {v : Value} {E : List Ln} (h : w.ownsRow base 165 8 v E.length (lnR E)) (hn : v ≠ .slice none 0 0) :
 ∃ g cap, v = .slice (some ⟨g, 0, none⟩) E.length cap /\ base <= g /\ g < w.heap.size /\ LnsAt w (some ⟨g, 0, none⟩) E := by
 rcases h.2 with ⟨hv, _⟩ | ⟨g, cap, cur, rfl, hb, hg, hrest⟩
 . exact absurd hv hn
 . refine ⟨g, cap, rfl, hb, (Array.getElem?_eq_some_iff.1 hg).1, .inr ⟨g, rfl, fun j hj => ?_⟩⟩
   have hc : ∀ f, f < 8 -> w.cell? ⟨g, j * 8 + f, none⟩ = (lnL E[j])[f]? := fun f hf => by rw [h.cellAt (j * 8 + f) (by omega), lnR_get E j hj f hf]
   exact ⟨hc 0 (by omega), hc 1 (by omega), hc 2 (by omega), hc 3 (by omega), hc 4 (by omega), hc 5 (by omega), hc 6 (by omega), hc 7 (by omega)⟩
theorem tok_len : ∀ (f : Nat) (l : List UInt8), (Byt.tok f l).length <= l.length /\ ∀ t ∈ Byt.tok f l, t.length <= l.length
 | 0, l => ⟨by simp [Byt.tok], by simp [Byt.tok]⟩
 | f + 1, [] => ⟨by simp [Byt.tok], by simp [Byt.tok]⟩
 | f + 1, c :: l => by
  simp only [Byt.tok]
  have h0 := tok_len f l
  split
  . exact ⟨by simp, by simp⟩
  . split
    . next hr =>
      have h1 := tok_len f ((c :: l).drop (Byt.rowEnd (c :: l)))
      have hre := rowEnd_le (c :: l)
      rw [List.length_drop] at h1
      refine ⟨by rw [List.length_cons]; omega, fun t ht => ?_⟩
      rcases List.mem_cons.1 ht with rfl | ht
      . rw [List.length_take]; omega
      . have := h1.2 t ht; omega
    . split
      . exact ⟨by have := h0.1; rw [List.length_cons]; omega, fun t ht => by have := h0.2 t ht; rw [List.length_cons]; omega⟩
      . refine ⟨by have := h0.1; simp only [List.length_cons]; omega, fun t ht => ?_⟩
        rcases List.mem_cons.1 ht with rfl | ht
        . simp
        . have := h0.2 t ht; rw [List.length_cons]; omega
theorem a_tokens2 (s : ByteArray) (hs : s.size <= 5000) (w : World) :
 Calls prog 151 #[.string s] w fun e w' => ∃ b cap, e = .returned (.slice (some ⟨b, 0, none⟩) (Byt.tok s.size s.data.toList).length cap) /\ (Byt.tok s.size s.data.toList).length <= cap /\ b < w'.heap.size /\ Hid (StrsAt w' b 0 (Byt.tok s.size s.data.toList)) /\ Below w.heap.size w w' := by
 refine (a_tokens s hs w).mono ?_
 rintro e w' ⟨v, rfl, hn, hown, hb⟩
 have h2 := hown.2
 obtain ⟨b, cap, rfl, h1, h2', h3⟩ := StrsAt.of_row hown hn
 refine ⟨b, cap, rfl, ?_, h2', h3, hb⟩
 rcases h2 with ⟨hv, _⟩ | ⟨g, cap', cur, hv, _, _, hc, _⟩
 . exact absurd hv hn
 . simp only [Value.slice.injEq] at hv
   rw [hv.2.2]; exact hc
theorem take_more (s : ByteArray) (bg e : Nat) (h : e < s.size) (hb : bg <= e) : (s.data.toList.take (e + 1)).drop bg = (s.data.toList.take e).drop bg ++ [s[e]] := by
 have hl : e < s.data.toList.length := by rw [Array.length_toList]; exact h
 rw [List.take_add_one, List.getElem?_eq_getElem hl, List.drop_append_of_le_length (by rw [List.length_take]; omega)]
 rfl
theorem ext_list (s : ByteArray) (a b : Nat) : (s.extract a b).data.toList = (s.data.toList.take b).drop a := by
 have h := ext_str s a b
 unfold Byt.strV at h
 simp only [Value.string.injEq] at h
 rw [h, List.drop_take]
def Byt.from (s : ByteArray) (e bg : Nat) (E : List Ln) : List Ln × Int × Nat := if e <= s.size then Byt.readAll E (Byt.segs ((s.data.toList.take e).drop bg) (s.data.toList.drop e)) else (E, 0, 0)
theorem from_on (s : ByteArray) (e bg : Nat) (E : List Ln) (he : e < s.size) (hb : bg <= e) (hc : ¬ s[e].toNat = 10) : Byt.from s e bg E = Byt.from s (e + 1) bg E := by
 unfold Byt.from
 rw [if_pos (by omega), if_pos (by omega), take_more s bg e he hb, dropb s e he]
 simp only [Byt.segs]; rw [if_neg hc]
theorem from_end (s : ByteArray) (e bg : Nat) (E : List Ln) (X : ByteArray) (hX : X.data.toList = (s.data.toList.take e).drop bg) (he : e = s.size \/ ∃ h : e < s.size, s[e].toNat = 10) (Z : Int × Ln) (hZ : Byt.readLn (Byt.tok X.size X.data.toList) E = Z) : Byt.from s e bg E = if Z.1 = 0 then Byt.from s (e + 1) (e + 1) (E ++ [Z.2]) else ([], Z.1, E.length + 1) := by
 have hsz : X.size = X.data.toList.length := by rw [Array.length_toList]; rfl
 have hle : e <= s.size := by rcases he with h | ⟨h, _⟩ <;> omega
 have h1 : Byt.from s e bg E = Byt.readAll E (Byt.segs X.data.toList (s.data.toList.drop e)) := by unfold Byt.from; rw [if_pos hle, hX]
 rw [h1]
 rcases he with h | ⟨h, hc⟩
 . have h2 : ∀ E, Byt.from s (e + 1) (e + 1) E = (E, 0, 0) := fun E => by unfold Byt.from; rw [if_neg (by omega)]
   have h3 : s.data.toList.drop e = [] := List.drop_eq_nil_of_le (by rw [Array.length_toList, h]; exact Nat.le_refl _)
   rw [h2, h3]
   simp only [Byt.segs, Byt.readAll]
   rw [<- hsz, hZ]
 . have h4 : (s.data.toList.take (e + 1)).drop (e + 1) = [] := List.drop_eq_nil_of_le (by rw [List.length_take]; omega)
   have h2 : ∀ E, Byt.from s (e + 1) (e + 1) E = Byt.readAll E (Byt.segs [] (s.data.toList.drop (e + 1))) := fun E => by unfold Byt.from; rw [if_pos (by omega), h4]
   rw [h2, dropb s e h]
   simp only [Byt.segs]
   rw [if_pos hc]
   simp only [Byt.readAll]
   rw [<- hsz, hZ]
theorem a_readLines (s : ByteArray) (hs : s.size <= 4096) (w : World) :
 Calls prog 114 #[.string s] w fun e w' => (∃ v, e = .returned (.tuple #[v, .int .i64 (Byt.readAll [] (Byt.segs [] s.data.toList)).2.1, .int .i64 (Byt.readAll [] (Byt.segs [] s.data.toList)).2.2]) /\ ((Byt.readAll [] (Byt.segs [] s.data.toList)).2.1 = 0 -> ∃ p cap, v = .slice p (Byt.readAll [] (Byt.segs [] s.data.toList)).1.length cap /\ (Byt.readAll [] (Byt.segs [] s.data.toList)).1.length <= 5000 /\ (∀ a, p = some a -> a.block < w'.heap.size) /\ LnsAt w' p (Byt.readAll [] (Byt.segs [] s.data.toList)).1)) /\ Below w.heap.size w w' := by
 obtain ⟨R, hR⟩ := zn1 (Byt.readAll [] (Byt.segs [] s.data.toList))
 rw [<- hR]
 have HR : Hid (R = Byt.from s 0 0 []) := by
  show R = _
  rw [hR]; unfold Byt.from; rw [if_pos (Nat.zero_le _)]; rfl
 clear hR
 have hmk : ∀ w, (Instr.makeSlice 140 (.int .i64 0) (.int .i64 0)).run prog w = .ok (.slice (some ⟨w.heap.size, 0, none⟩) 0 0) (w.alloc (.cells #[] 165)) := fun _ => by kernel_rfl
 have hinfo : (prog.info? 165).map (fun i => (i.zero, i.size, i.bytes)) = some (some (lnA ⟨#[]⟩ ins0 ⟨#[]⟩), 8, 80) := by kernel_rfl
 obtain ⟨i0, hi, hz0, hz1, hz2⟩ := info_parts hinfo
 go_enter func114, ntmps114
 go_wp2
 go_loopw [5, 6, 7] (fun v b6 e7 wr => ∃ (e bg : Nat) (E : List Ln), e <= s.size + 1 /\ bg <= e /\ E.length <= e /\ e7 = .int .i64 e /\ b6 = .int .i64 bg /\ v ≠ .slice none 0 0 /\ Hid (wr.ownsRow w.heap.size 165 8 v E.length (lnR E)) /\ Hid (Below w.heap.size w wr) /\ Hid (R = Byt.from s e bg E)) (fun _ _ e7 _ => s.size + 1 - (intOf e7).toNat)
 case atStart => exact ⟨0, 0, [], by omega, by omega, by simp, rfl, rfl, by simp, hide1 (World.ownsRow_made w _ 0 (Nat.le_refl _) zq467 rfl), hide1 ((Below.refl _ _).alloc (Nat.le_refl _) _), HR⟩
 case round =>
  obtain ⟨e, bg, E, he, hbe, hEe, rfl, rfl, hnn, hown, hb, hh⟩ := hrel
  clear HR hmk
  by_cases hle : e <= s.size
  . by_cases hmid : ∃ h : e < s.size, ¬ s[e].toNat = 10
    . obtain ⟨hlt, hc⟩ := hmid
      have hc' : ((s[e].toNat : Int) != 10) = true := by simp; omega
      rw [from_on s e bg E hlt hbe hc] at hh
      clear hc
      go_wp2
      go_roundw
      case rel => exact ⟨e + 1, bg, E, by omega, by omega, by omega, by go_num, rfl, hnn, hown, hb, hh⟩
      case measure => exact zq186
    . have hend : e = s.size \/ ∃ h : e < s.size, s[e].toNat = 10 := by
       by_cases h : e < s.size
       . exact .inr ⟨h, Classical.byContradiction fun hc => hmid ⟨h, hc⟩⟩
       . exact .inl (by omega)
      clear hmid
      obtain ⟨g, cap, rfl, hg0, hg1, hln⟩ := lns_own hown.out hnn
      obtain ⟨X, hX⟩ := zn1 (s.extract bg e)
      have hsl : ∀ w, (Instr.slice 9 (.string s) (some (.int .i64 (bg : Int))) (some (.int .i64 (e : Int))) none).run prog w = .ok (.string X) w := by
       intro w; rw [hX]; exact slice_mid s bg e hbe hle w
      have hXl : X.data.toList = (s.data.toList.take e).drop bg := by rw [hX]; exact ext_list s bg e
      have hXs : X.size <= 4096 := by
       have : X.size = X.data.toList.length := by rw [Array.length_toList]; rfl
       rw [this, hXl, List.length_drop, List.length_take, Array.length_toList]
       have : s.data.size = s.size := rfl
       omega
      obtain ⟨K, hK⟩ := zn1 (Byt.tok X.size X.data.toList)
      have htk := a_tokens2 X (by omega)
      have hKl := (tok_len X.size X.data.toList).1
      have hKs := (tok_len X.size X.data.toList).2
      have hXz : X.data.toList.length = X.size := by rw [Array.length_toList]; rfl
      rw [hXz, <- hK] at hKl hKs
      rw [<- hK] at htk
      obtain ⟨Z, hZ⟩ := zn1 (Byt.readLn K E)
      rw [from_end s e bg E X hXl hend Z (by rw [hZ, hK])] at hh
      have HTK := hide1 htk
      have HZ := hide1 hZ
      have HLN := hide1 hln
      have hKs' : Hid (Short K) := hide1 (fun t ht => by have := hKs t ht; omega)
      have hcond : Hid (e = s.size \/ ∃ h : e < s.size, s[e].toNat = 10) := hend
      clear htk hZ hln hX hXl hXz hKs hK hend
      obtain ⟨er, l⟩ := Z
      go_upto_region 6 with fail
      go_cut [27] from 18 to 27 (fun q wx => q = .bool false /\ wx = wr)
      case first =>
       by_cases hlt : e < s.size
       . have hc : s[e].toNat = 10 := by
          rcases hcond.out with h | ⟨h, hc⟩
          . omega
          . exact hc
         have hc' : ((s[e].toNat : Int) != 10) = false := by simp; omega
         clear hc
         exact zq358
       . have hlt' : decide ((e : Int) < (s.size : Int)) = false := by simp; omega
         exact zq358
      case rest =>
       obtain ⟨rfl, rfl⟩ := hcut
       clear hcond
       go_wp2_with fail
       refine (HTK.out _).mono ?_
       rintro e1 w1 ⟨tb, tcap, rfl, htc, htb, hst, hb1⟩
       have hrl := a_readLine tb 0 tcap K (by omega) htc (some ⟨g, 0, none⟩) cap E (by omega) w1 hst htb hKs' (hide1 (HLN.out.below hb1 (fun a h => by simp only [Option.some.injEq] at h; rw [<- h]; exact hg1))) (hide1 (fun a h => by simp only [Option.some.injEq] at h; rw [<- h]; exact Nat.lt_of_lt_of_le hg1 hb1.size))
       rw [<- HZ.out] at hrl
       have HRL := hide1 hrl
       have HB1 := hide1 (hb.out.trans (hb1.mono hb.out.size))
       have HO1 := hide1 (own_more hown.out hb1)
       clear hrl HTK HLN hst hsl
       go_wp2_with fail
       refine HRL.out.mono ?_
       rintro e1 w2 ⟨rfl, hb2⟩
       have HB2 := hide1 (HB1.out.trans (hb2.mono HB1.out.size))
       have HO2 := hide1 (own_more HO1.out hb2)
       have hsz2 := HB2.out.size
       clear HRL HB1 HO1 hb1 hb2 hb hown
       obtain ⟨nm, i, tg⟩ := l
       simp only [lnV, lnA]
       obtain ⟨NM, hNM⟩ := zn1 (⟨nm.toArray⟩ : ByteArray)
       obtain ⟨TG, hTG⟩ := zn1 (⟨tg.toArray⟩ : ByteArray)
       rw [<- hNM, <- hTG]
       have HNT := hide1 (And.intro hNM hTG)
       clear hNM hTG
       by_cases her : er = 0
       . have her' : (er != 0) = false := by simp [her]
         have hgo : Hid (R = Byt.from s (e + 1) (e + 1) (E ++ [(⟨nm, i, tg⟩ : Ln)])) := by
          show R = _
          rw [hh.out, if_pos her]
         clear hh her HZ
         have hrow : ∀ j, (Value.slice (some ⟨g, 0, none⟩) E.length cap).ownBlock = some j -> w.heap.size <= j := fun j hj => by
          simp only [Value.ownBlock, Option.some.injEq] at hj
          omega
         have HROW := hide1 hrow
         clear hrow
         go_wp2_with (at_builtin; refine wpList_append_own _ rfl (.tmp 45) (.tmp 47) 140 rfl w.heap.size 165 i0 (lnA ⟨#[]⟩ ins0 ⟨#[]⟩) 8 80 Tryz.underlying140 hi hz0 hz1 hz2 rfl (by decide) _ _ _ rfl ((HO2.out.alloc _).alloc _) ⟨_, 0, none⟩ 1 1 [.string NM, .int .i64 i.op, .int .i64 i.rd, .int .i64 i.rs1, .int .i64 i.rs2, .int .i64 i.im, .int .i64 i.ln, .string TG] rfl rfl ?c1 ?c2 ?c3 ?c4 ?c5 ?_)
         case c1 =>
          intro j u hj
          match j, hj with
          | 0, hj => simp at hj; subst hj; simp [Addr.add]
          | 1, hj => simp at hj; subst hj; simp [Addr.add]
          | 2, hj => simp at hj; subst hj; simp [Addr.add]
          | 3, hj => simp at hj; subst hj; simp [Addr.add]
          | 4, hj => simp at hj; subst hj; simp [Addr.add]
          | 5, hj => simp at hj; subst hj; simp [Addr.add]
          | 6, hj => simp at hj; subst hj; simp [Addr.add]
          | 7, hj => simp at hj; subst hj; simp [Addr.add]
          | j + 8, hj => simp at hj
         case c2 => intro u hu; simp at hu; rcases hu with rfl | rfl | rfl | rfl | rfl | rfl | rfl | rfl <;> rfl
         case c3 => unfold maxLen; omega
         case c4 => omega
         case c5 => simp; omega
         intro v' w3 hown' hgrow hnil
         have hnn' : v' ≠ .slice none 0 0 := fun h => hnil h
         have hrow2 := hide1 (((HB2.out.alloc (by omega) _).alloc (by simp; omega) _).grown hgrow (by simp; omega) HROW.out)
         clear hnil hgrow HO2 HB2
         obtain ⟨h1, h2⟩ := HNT.out
         have hown2 : Hid (w3.ownsRow w.heap.size 165 8 v' (E ++ [(⟨nm, i, tg⟩ : Ln)]).length (lnR (E ++ [(⟨nm, i, tg⟩ : Ln)]))) := by
          show w3.ownsRow w.heap.size 165 8 v' (E ++ [(⟨nm, i, tg⟩ : Ln)]).length (lnR (E ++ [(⟨nm, i, tg⟩ : Ln)]))
          rw [lnR_app, List.length_append]
          rw [h1, h2] at hown'
          exact hown'
         clear hown' h1 h2 HNT
         go_wp2
         go_roundw
         case rel =>
          first
           | exact ⟨e + 1, e + 1, E ++ [(⟨nm, i, tg⟩ : Ln)], by omega, by omega, by simp; omega, by go_num, by go_num, hnn', hown2, hrow2, hgo⟩
           | ((repeat apply Exists.intro); exact ⟨⟨e + 1, e + 1, E ++ [(⟨nm, i, tg⟩ : Ln)], by omega, by omega, by simp; omega, by go_num, by go_num, hnn', hown2, hrow2, hgo⟩, rfl⟩)
         case measure => exact zq186
       . have her' : (er != 0) = true := by simp [her]
         have hgo : Hid (R = ([], er, E.length + 1)) := by
          show R = _
          rw [hh.out, if_neg her]
         have hne := hide1 her
         clear hh her HZ
         go_wp2
         go_ret3
         exact ⟨⟨_, by rw [hgo.out]; rfl, fun h => absurd (by rw [hgo.out] at h; exact h) hne.out⟩, HB2.out.alloc (by omega) _⟩
  . have hT : Hid (R = (E, 0, 0)) := by
     show R = _
     rw [hh.out]; unfold Byt.from; rw [if_neg hle]
    obtain ⟨g, cap, rfl, hg0, hg1, hln⟩ := lns_own hown.out hnn
    have HLN := hide1 hln
    have hle' : decide ((e : Int) <= (s.size : Int)) = false := by simp; omega
    clear hh hln
    go_wp2
    go_ret3
    exact ⟨⟨_, by rw [hT.out]; rfl, fun _ => ⟨some ⟨g, 0, none⟩, cap, by rw [hT.out]; rfl, by rw [hT.out]; show E.length <= 5000; omega, fun a h => by simp only [Option.some.injEq] at h; rw [<- h]; exact hg1, by rw [hT.out]; exact HLN.out⟩⟩, hb.out⟩
theorem rowCount_ok (n : Int) : (rowCount n).toNat <= 70 /\ ((rowCount n).toNat : Int) = rowCount n := by
 unfold rowCount
 cases (n == 4) <;> cases (n == 2) <;> decide
theorem i_Encode (i : Ins) (w : World) :
 CB 87 #[insV i] (.tuple #[.int .i64 (encodeD i).1, .int .i64 (encodeD i).2]) w := by
 refine (i_Encode' i (rowCount i.ln).toNat (rowCount_ok _).1 (rowCount_ok _).2 w).mono ?_
 rintro e w' ⟨⟨st, hst, rfl⟩, hb⟩
 refine ⟨?_, hb⟩
 unfold encodeD
 rw [<- hst.out]
 cases st <;> rfl
theorem a_wordOf (i : Ins) (w : World) :
 CB 155 #[insV i] (.tuple #[.int .i64 (Byt.wordD i).1, .int .i64 (Byt.wordD i).2]) w := by
 unfold Byt.wordD insV
 by_cases h0 : i.ln = 0
 . rw [if_pos h0]
   have h0' : (i.ln == 0) = true := by simp [h0]
   go_enter func155, ntmps155
   go_wp2
   exact zq359
 rw [if_neg h0]
 have h0' : (i.ln == 0) = false := by simp [h0]
 by_cases h1 : i.op = 71
 . rw [if_pos h1]
   have h1' : (i.op == 71) = true := by simp [h1]
   unfold Byt.dataD
   have hd := fun w => a_dataOf i.im (-2147483648) 4294967295 w
   obtain ⟨V, hV⟩ := zn1 (if i.im < -2147483648 \/ 4294967295 < i.im then (0, 7) else (i.im, (0 : Int)))
   rw [<- hV]
   have e1 : (if i.im < -2147483648 \/ 4294967295 < i.im then 0 else i.im) = V.1 := by rw [hV]; split <;> rfl
   have e2 : (if i.im < -2147483648 \/ 4294967295 < i.im then (7 : Int) else 0) = V.2 := by rw [hV]; split <;> rfl
   rw [e1, e2] at hd
   have HD := hide1 hd
   clear hd hV e1 e2 h0 h1
   exact zq360
 rw [if_neg h1]
 have h1' : (i.op == 71) = false := by simp [h1]
 by_cases h2 : i.op = 72
 . rw [if_pos h2]
   have h2' : (i.op == 72) = true := by simp [h2]
   unfold Byt.dataD
   have hd := fun w => a_dataOf i.im (-32768) 65535 w
   obtain ⟨V, hV⟩ := zn1 (if i.im < -32768 \/ 65535 < i.im then (0, 7) else (i.im, (0 : Int)))
   rw [<- hV]
   have e1 : (if i.im < -32768 \/ 65535 < i.im then 0 else i.im) = V.1 := by rw [hV]; split <;> rfl
   have e2 : (if i.im < -32768 \/ 65535 < i.im then (7 : Int) else 0) = V.2 := by rw [hV]; split <;> rfl
   rw [e1, e2] at hd
   have HD := hide1 hd
   clear hd hV e1 e2 h0 h1 h2
   exact zq360
 rw [if_neg h2]
 have h2' : (i.op == 72) = false := by simp [h2]
 have he := i_Encode i
 unfold insV at he
 obtain ⟨V, hV⟩ := zn1 (encodeD i)
 rw [<- hV] at he |-
 have HE := hide1 he
 clear he hV h0 h1 h2
 by_cases hv : V.2 = 0
 . rw [if_pos hv]
   have hv' : (V.2 != 0) = false := by simp [hv]
   exact zq361
 . rw [if_neg hv]
   have hv' : (V.2 != 0) = true := by simp [hv]
   exact zq361
theorem leL_length (v : Int) : ∀ n, (leL v n).length = n
 | 0 => rfl
 | n + 1 => by simp [leL, leL_length v n]
theorem lay_step {L : List Ln} {k : Nat} {m : List UInt8} (h : k < L.length) : Byt.lay L (L.drop k) k m =
 if L[k].tg ≠ [] /\ Byt.findN L L[k].tg = L.length then ([], 8, k + 1) else
 if (Byt.wordD (Byt.aimed L L[k] m.length)).2 = 0 then Byt.lay L (L.drop (k + 1)) (k + 1) (m ++ Byt.leB (Byt.wordD (Byt.aimed L L[k] m.length)).1 L[k].i.ln.toNat) else ([], (Byt.wordD (Byt.aimed L L[k] m.length)).2, k + 1) := by
 rw [List.drop_eq_getElem_cons h]; rfl
theorem lay_no {L : List Ln} {k : Nat} {m : List UInt8} (h : k < L.length) (h1 : L[k].tg ≠ []) (h2 : Byt.findN L L[k].tg = L.length) : Byt.lay L (L.drop k) k m = ([], 8, k + 1) := by
 rw [lay_step h, if_pos ⟨h1, h2⟩]
theorem lay_yes {L : List Ln} {k : Nat} {m : List UInt8} (h : k < L.length) (h1 : ¬ (L[k].tg ≠ [] /\ Byt.findN L L[k].tg = L.length)) (i : Ins) (hi : Byt.aimed L L[k] m.length = i) : Byt.lay L (L.drop k) k m = if (Byt.wordD i).2 = 0 then Byt.lay L (L.drop (k + 1)) (k + 1) (m ++ Byt.leB (Byt.wordD i).1 L[k].i.ln.toNat) else ([], (Byt.wordD i).2, k + 1) := by
 rw [lay_step h, if_neg h1, hi]
theorem strNums_size (l : List Int) : (strOfNums l).size = l.length := by
 unfold strOfNums; simp [ByteArray.size]
theorem app_list (X B : ByteArray) : (X ++ B).data.toList = X.data.toList ++ B.data.toList := by
 rw [ByteArray.data_append, Array.toList_append]
theorem place_bd : ∀ (L : List Ln) (n : Nat), Tidy L -> 0 <= Byt.place L n /\ Byt.place L n <= 4 * L.length
 | [], n, _ => by cases n <;> simp [Byt.place]
 | l :: L, 0, _ => by simp [Byt.place]; omega
 | l :: L, n + 1, h => by
  have ih := place_bd L n (fun x hx => h x (List.mem_cons_of_mem _ hx))
  have := h l (by simp)
  simp only [Byt.place, List.length_cons]; omega
theorem a_layLines (p : Option Addr) (cap : Nat) (L : List Ln) (hL : L.length <= 5000) (hd : Hid (Tidy L)) (w : World) (hw : Hid (LnsAt w p L)) (hp : Hid (∀ a, p = some a -> a.block < w.heap.size)) :
 CB 115 #[.slice p L.length cap] (.tuple #[Byt.strV (Byt.lay L L 0 []).1, .int .i64 (Byt.lay L L 0 []).2.1, .int .i64 (Byt.lay L L 0 []).2.2]) w := by
 obtain ⟨R, hR⟩ := zn1 (Byt.lay L L 0 [])
 rw [<- hR]
 have HR : Hid (R = Byt.lay L (L.drop 0) 0 (⟨#[]⟩ : ByteArray).data.toList) := hR
 clear hR
 go_enter func115, ntmps115
 go_wp2
 go_loopw [5, 6] (fun v k6 wr => ∃ (k : Nat) (X : ByteArray), k <= L.length /\ X.size <= 4 * k /\ v = .string X /\ k6 = .int .i64 k /\ Hid (Below w.heap.size w wr) /\ Hid (R = Byt.lay L (L.drop k) k X.data.toList)) (fun _ k6 _ => L.length - (intOf k6).toNat)
 case atStart => exact ⟨0, ⟨#[]⟩, by omega, by decide, rfl, rfl, hide1 (Below.refl _ _), HR⟩
 case round =>
  obtain ⟨k, X, hk, hXs, rfl, rfl, hb, hh⟩ := hrel
  clear HR
  by_cases hlt : k < L.length
  . have hln := hide1 (hw.out.below hb.out hp.out)
    rcases hln.out with h0 | ⟨b, rfl, hcx⟩
    . exact zq350
    have hcx := hcx k hlt
    have hbl : b < wr.heap.size := Nat.lt_of_lt_of_le (hp.out _ rfl) hb.out.size
    have hz := hd.out L[k] (List.getElem_mem hlt)
    obtain ⟨z, hz', hz4⟩ : ∃ z : Nat, L[k].i.ln = z /\ z <= 4 := ⟨L[k].i.ln.toNat, by omega, by omega⟩
    obtain ⟨l, hl⟩ := zn1 (L[k])
    rw [<- hl] at hcx hz'
    have HL := hide1 hl
    clear hz hl
    obtain ⟨nm, i, tg⟩ := l
    have c0 := hcx.c0
    have c1 := hcx.c1
    have c2 := hcx.c2
    have c3 := hcx.c3
    have c4 := hcx.c4
    have c5 := hcx.c5
    have c6 := hcx.c6
    have c7 := hcx.c7
    simp only at c0 c1 c2 c3 c4 c5 c6 c7 hz'
    rw [hz'] at c6
    have HZ := hide1 hz'
    obtain ⟨NM, hNM⟩ := zn1 (⟨nm.toArray⟩ : ByteArray)
    obtain ⟨TG, hTG⟩ := zn1 (⟨tg.toArray⟩ : ByteArray)
    rw [<- hNM] at c0
    rw [<- hTG] at c7
    have hTl : TG.data.toList = tg := by rw [hTG]
    have q0 : (TG.toList == []) = decide (TG.data.toList = []) := eq_lit TG []
    rw [hTl] at q0
    have HTG := hide1 hTl
    clear hNM hTG hTl hz' hcx
    by_cases htg : tg = []
    . rw [decide_eq_true htg] at q0
      have hstep : Hid (R = if (Byt.wordD i).2 = 0 then Byt.lay L (L.drop (k + 1)) (k + 1) (X.data.toList ++ Byt.leB (Byt.wordD i).1 i.ln.toNat) else ([], (Byt.wordD i).2, k + 1)) := by
       show R = _
       rw [hh.out, lay_yes hlt (by rw [<- HL.out]; exact fun h => h.1 htg) i (by unfold Byt.aimed; rw [<- HL.out, if_pos htg]), <- HL.out]
      clear hh htg
      obtain ⟨V, hV⟩ := zn1 (Byt.wordD ⟨i.op, i.rd, i.rs1, i.rs2, i.im, z⟩)
      have hgo : Hid (R = if V.2 = 0 then Byt.lay L (L.drop (k + 1)) (k + 1) (X.data.toList ++ Byt.leB V.1 z) else ([], V.2, k + 1)) := by
       show R = _
       have h := hstep.out
       have hI : i = ⟨i.op, i.rd, i.rs1, i.rs2, i.im, z⟩ := by rw [<- HZ.out]
       rw [hI, <- hV] at h
       first | exact h | (rw [HZ.out] at h; exact h)
      have hnb := Bx.new wr NM ⟨i.op, i.rd, i.rs1, i.rs2, i.im, z⟩ TG
      have hww : Below w.heap.size w (wr.alloc (lnC NM ⟨i.op, i.rd, i.rs1, i.rs2, i.im, z⟩ TG)) := hb.out.alloc hb.out.size _
      have hwo := a_wordOf ⟨i.op, i.rd, i.rs1, i.rs2, i.im, z⟩ (wr.alloc (lnC NM ⟨i.op, i.rd, i.rs1, i.rs2, i.im, z⟩ TG))
      rw [<- hV] at hwo
      have HWO := hide1 (hwo.mono fun e w1 h => (⟨h.1, hide1 (hww.trans (h.2.mono hww.size)), (hnb.more h.2 hnb.lt).c6⟩ : _ /\ Hid (Below w.heap.size w w1) /\ w1.cell? ⟨wr.heap.size, 6, none⟩ = some (.int .i64 z)))
      unfold insV lnC at HWO
      clear hwo hww hnb hV hstep
      go_wp2_with fail
      exact zq362
    . rw [decide_eq_false htg] at q0
      have hww : Below w.heap.size w (wr.alloc (lnC NM ⟨i.op, i.rd, i.rs1, i.rs2, i.im, z⟩ TG)) := hb.out.alloc hb.out.size _
      have hfn := a_findName (some ⟨b, 0, none⟩) cap L hL TG _ (hide1 (hw.out.below hww hp.out))
      have hpl := fun n hn => a_placeOf (some ⟨b, 0, none⟩) cap L hL hd n hn _ (hide1 (hw.out.below hww hp.out))
      rw [HTG.out] at hfn
      obtain ⟨F, hF⟩ := zn1 (Byt.findN L tg)
      have hFl : F <= L.length := by rw [hF]; exact Byt.findN_le L tg
      rw [<- hF] at hfn
      have HF := hide1 hF
      have HFN := hide1 hfn
      have hpl' := hpl F (by omega)
      have hPb := place_bd L F hd.out
      obtain ⟨P, hP⟩ := zn1 (Byt.place L F)
      rw [<- hP] at hpl' hPb
      have HP := hide1 hP
      have HPL := hide1 hpl'
      unfold lnC at HFN HPL
      clear hfn hpl hpl' hww hF hP
      by_cases hfe : F = L.length
      . have hno : Hid (R = ([], 8, k + 1)) := by
         show R = _
         rw [hh.out]
         exact lay_no hlt (by rw [<- HL.out]; exact htg) (by rw [<- HL.out]; show Byt.findN L tg = L.length; rw [<- HF.out]; exact hfe)
        have e1 : ((F : Int) == (L.length : Int)) = true := by simp; omega
        have e2 : (F == L.length) = true := by simp; omega
        clear hh htg hfe
        go_wp2_with (go_at_call 153; refine HFN.out.mono ?_; rintro e w1 ⟨rfl, rfl⟩)
        go_ret3
        exact ⟨by rw [hno.out]; rfl, hb.out.alloc hb.out.size _⟩
      . have hstep : Hid (R = if (Byt.wordD ⟨i.op, i.rd, i.rs1, i.rs2, P - X.size, i.ln⟩).2 = 0 then Byt.lay L (L.drop (k + 1)) (k + 1) (X.data.toList ++ Byt.leB (Byt.wordD ⟨i.op, i.rd, i.rs1, i.rs2, P - X.size, i.ln⟩).1 i.ln.toNat) else ([], (Byt.wordD ⟨i.op, i.rd, i.rs1, i.rs2, P - X.size, i.ln⟩).2, k + 1)) := by
         show R = _
         rw [hh.out, lay_yes hlt (by rw [<- HL.out]; intro h; exact hfe (by rw [HF.out]; exact h.2)) ⟨i.op, i.rd, i.rs1, i.rs2, P - X.size, i.ln⟩ (by
          unfold Byt.aimed
          rw [<- HL.out, if_neg htg]
          show ({ i with im := Byt.place L (Byt.findN L tg) - _ } : Ins) = _
          rw [<- HF.out, <- HP.out, Array.length_toList]; rfl), <- HL.out]
        have e1 : ((F : Int) == (L.length : Int)) = false := by simp; omega
        have e2 : (F == L.length) = false := by simp; omega
        clear hh htg hfe
        obtain ⟨V, hV⟩ := zn1 (Byt.wordD ⟨i.op, i.rd, i.rs1, i.rs2, P - X.size, z⟩)
        have hgo : Hid (R = if V.2 = 0 then Byt.lay L (L.drop (k + 1)) (k + 1) (X.data.toList ++ Byt.leB V.1 z) else ([], V.2, k + 1)) := by
         show R = _
         have h := hstep.out
         have hI : (⟨i.op, i.rd, i.rs1, i.rs2, P - X.size, i.ln⟩ : Ins) = ⟨i.op, i.rd, i.rs1, i.rs2, P - X.size, z⟩ := by rw [<- HZ.out]
         rw [hI, <- hV] at h
         first | exact h | (rw [HZ.out] at h; exact h)
        have hnb := Bx.new wr NM ⟨i.op, i.rd, i.rs1, i.rs2, P - X.size, z⟩ TG
        have hww : Below w.heap.size w (wr.alloc (lnC NM ⟨i.op, i.rd, i.rs1, i.rs2, P - X.size, z⟩ TG)) := hb.out.alloc hb.out.size _
        have hwo := a_wordOf ⟨i.op, i.rd, i.rs1, i.rs2, P - X.size, z⟩ (wr.alloc (lnC NM ⟨i.op, i.rd, i.rs1, i.rs2, P - X.size, z⟩ TG))
        rw [<- hV] at hwo
        have HWO := hide1 (hwo.mono fun e w1 h => (⟨h.1, hide1 (hww.trans (h.2.mono hww.size)), (hnb.more h.2 hnb.lt).c6⟩ : _ /\ Hid (Below w.heap.size w w1) /\ w1.cell? ⟨wr.heap.size, 6, none⟩ = some (.int .i64 z)))
        unfold insV lnC at HWO
        clear hwo hww hnb hV hstep
        go_upto_region 7 with fail
        go_wp2_with (first | (go_at_call 153; refine HFN.out.mono ?_; rintro e w1 ⟨rfl, rfl⟩) | (go_at_call 154; refine HPL.out.mono ?_; rintro e w1 ⟨rfl, rfl⟩) | (go_at_call 155; fail))
        exact zq362
  . have hT : Hid (R = (X.data.toList, 0, 0)) := by
     show R = _
     rw [hh.out, List.drop_eq_nil_of_le (by omega)]; rfl
    have hlt' : decide ((k : Int) < (L.length : Int)) = false := by simp; omega
    clear hh
    go_wp2
    go_ret3
    exact ⟨by rw [hT.out]; unfold Byt.strV; simp only [mk_list]; rfl, hb.out⟩
theorem opd_ln {i j : Ins} {g h : List UInt8} {c : Nat} {T : List (List UInt8)} (e : Byt.opdP i g c T = some (j, h)) : j.ln = i.ln /\ j.op = i.op := by
 unfold Byt.opdP at e
 split at e
 . cases hr : Byt.opdR i c (T[0]?.getD []) with
   | none => rw [hr] at e; simp at e
   | some x =>
    rw [hr] at e
    simp only [Option.map_some, Option.some.injEq, Prod.mk.injEq] at e
    rw [<- e.1]
    unfold Byt.opdR at hr
    split at hr
    . simp at hr
    . simp only [Option.some.injEq] at hr
      rw [<- hr]
      split
      . exact ⟨rfl, rfl⟩
      . split <;> exact ⟨rfl, rfl⟩
 . split at e
   . cases hr : Byt.opdM i (T[0]?.getD []) (T[1]?.getD []) (T[2]?.getD []) (T[3]?.getD []) with
     | none => rw [hr] at e; simp at e
     | some x =>
      rw [hr] at e
      simp only [Option.map_some, Option.some.injEq, Prod.mk.injEq] at e
      rw [<- e.1]
      unfold Byt.opdM at hr
      split at hr
      . split at hr
        . simp at hr
        . simp only [Option.some.injEq] at hr
          rw [<- hr]; exact ⟨rfl, rfl⟩
      . simp at hr
   . split at e
     . simp only [Option.some.injEq, Prod.mk.injEq] at e
       rw [<- e.1]; exact ⟨rfl, rfl⟩
     . cases hr : Byt.opdN i c (T[0]?.getD []) with
       | none => rw [hr] at e; simp at e
       | some x =>
        rw [hr] at e
        simp only [Option.map_some, Option.some.injEq, Prod.mk.injEq] at e
        rw [<- e.1]
        unfold Byt.opdN at hr
        split at hr
        . simp only [Option.some.injEq] at hr
          rw [<- hr]
          split <;> exact ⟨rfl, rfl⟩
        . simp at hr
theorem ops_ln : ∀ (cs : List Nat) (m : Bool) (i : Ins) (g : List UInt8) (T : List (List UInt8)) (j : Ins) (h : List UInt8), Byt.opsP cs m i g T = some (j, h) -> j.ln = i.ln /\ j.op = i.op
 | [], m, i, g, T, j, h, e => by
  simp only [Byt.opsP] at e
  split at e
  . simp only [Option.some.injEq, Prod.mk.injEq] at e; rw [<- e.1]; exact ⟨rfl, rfl⟩
  . simp at e
 | c :: cs, m, i, g, T, j, h, e => by
  simp only [Byt.opsP] at e
  split at e
  . simp at e
  . split at e
    . simp at e
    . next x y he =>
      have h1 := opd_ln he
      have h2 := ops_ln cs true x y _ j h e
      exact ⟨h2.1.trans h1.1, h2.2.trans h1.2⟩
theorem wrdFrom_sz (t : List UInt8) : ∀ f op, (Byt.wrdFrom t f op).2 = 0 \/ (Byt.wrdFrom t f op).2 = 2 \/ (Byt.wrdFrom t f op).2 = 4
 | 0, op => .inl rfl
 | f + 1, op => by
  have ih := wrdFrom_sz t f (op + 1)
  unfold Byt.wrdFrom
  split
  . right; right; rfl
  . split
    . right; left; rfl
    . exact ih
theorem wrd_sz (t : List UInt8) : (Byt.wrd t).2 = 0 \/ (Byt.wrd t).2 = 2 \/ (Byt.wrd t).2 = 4 := by
 unfold Byt.wrd
 split
 . right; right; rfl
 . split
   . right; left; rfl
   . exact wrdFrom_sz t 70 1
theorem readR_tidy (nm : List UInt8) (T : List (List UInt8)) : (Byt.readR nm T).2.i.ln = 0 \/ (Byt.readR nm T).2.i.ln = 2 \/ (Byt.readR nm T).2.i.ln = 4 := by
 cases T with
 | nil => left; rfl
 | cons t LT =>
  by_cases hz : (Byt.wrd t).2 = 0
  . rw [readR_no nm t LT hz]; left; rfl
  . cases ho : Byt.opsP (Byt.shp (Byt.wrd t).1) false ⟨(Byt.wrd t).1, 0, 0, 0, 0, (Byt.wrd t).2⟩ [] LT with
    | none => rw [readR_bad nm t LT hz ho]; left; rfl
    | some r =>
     obtain ⟨i, g⟩ := r
     rw [readR_yes nm t LT hz ho]
     have h1 := (ops_ln _ _ _ _ _ _ _ ho).1
     have h2 := wrd_sz t
     simp only at h1 |-
     omega
theorem readLn_tidy (T : List (List UInt8)) (E : List Ln) : (Byt.readLn T E).2.i.ln = 0 \/ (Byt.readLn T E).2.i.ln = 2 \/ (Byt.readLn T E).2.i.ln = 4 := by
 unfold Byt.readLn
 split
 . split
   . split
     . left; rfl
     . exact readR_tidy _ _
   . left; rfl
 . exact readR_tidy _ _
theorem readAll_tidy : ∀ (ts : List (List UInt8)) (E : List Ln), Tidy E -> Tidy (Byt.readAll E ts).1
 | [], E, h => h
 | t :: ts, E, h => by
  simp only [Byt.readAll]
  split
  . refine readAll_tidy ts _ (fun l hl => ?_)
    rcases List.mem_append.1 hl with hl | hl
    . exact h l hl
    . rw [List.mem_singleton] at hl; rw [hl]; exact readLn_tidy _ _
  . intro l hl; simp at hl
theorem a_Assemble (s : ByteArray) (w : World) :
 CB 67 #[.string s] (.tuple #[Byt.strV (Byt.asmD s.data.toList).1, .int .i64 (Byt.asmD s.data.toList).2.1, .int .i64 (Byt.asmD s.data.toList).2.2]) w := by
 obtain ⟨R, hR⟩ := zn1 (Byt.asmD s.data.toList)
 rw [<- hR]
 unfold Byt.asmD at hR
 rw [show s.data.toList.length = s.size by rw [Array.length_toList]; rfl] at hR
 by_cases h1 : 4096 < s.size
 . rw [if_pos h1] at hR
   have h1' : decide (4096 < (s.size : Int)) = true := by simp; omega
   have HR := hide1 hR
   clear hR
   go_enter func67, ntmps67
   go_wp2
   go_ret3
   exact ⟨by rw [HR.out]; rfl, Below.refl _ _⟩
 rw [if_neg h1] at hR
 have h1' : decide (4096 < (s.size : Int)) = false := by simp; omega
 have hcl := a_countLines s (by omega) w
 obtain ⟨C, hC⟩ := zn1 (1 + Byt.nls s.data.toList)
 rw [<- hC] at hcl hR
 have HCL := hide1 hcl
 clear hcl hC
 by_cases h2 : 256 < C
 . rw [if_pos h2] at hR
   have h2' : decide (256 < (C : Int)) = true := by simp; omega
   have HR := hide1 hR
   clear hR
   go_enter func67, ntmps67
   go_wp2_with (go_at_call 113; refine HCL.out.mono ?_; rintro e w1 ⟨rfl, rfl⟩)
   go_ret3
   exact ⟨by rw [HR.out]; rfl, Below.refl _ _⟩
 rw [if_neg h2] at hR
 have h2' : decide (256 < (C : Int)) = false := by simp; omega
 have hrl := a_readLines s (by omega) w
 have htd := readAll_tidy (Byt.segs [] s.data.toList) [] (fun l hl => by simp at hl)
 obtain ⟨Q, hQ⟩ := zn1 (Byt.readAll [] (Byt.segs [] s.data.toList))
 rw [<- hQ] at hrl hR htd
 have HRL := hide1 hrl
 have HTD := hide1 htd
 clear hrl hQ htd
 obtain ⟨L, er, bad⟩ := Q
 by_cases h3 : er = 0
 . have h3' : (er != 0) = false := by simp [h3]
   have HR : Hid (R = Byt.lay L L 0 []) := by
    show R = _
    rw [hR]; simp only; rw [if_pos h3]
   have H3 := hide1 h3
   clear hR
   go_enter func67, ntmps67
   go_wp2_with fail
   refine HCL.out.mono ?_
   rintro e w1 ⟨rfl, rfl⟩
   go_wp2_with fail
   refine HRL.out.mono ?_
   rintro e w1 ⟨⟨v, rfl, hv⟩, hb⟩
   obtain ⟨p, cap, rfl, hL, hp, hln⟩ := hv H3.out
   have hlay := a_layLines p cap L hL (hide1 HTD.out) w1 (hide1 hln) (hide1 hp)
   rw [<- HR.out] at hlay
   have HLAY := hide1 hlay
   obtain ⟨X, hX⟩ := zn1 (Byt.strV R.1)
   rw [<- hX] at HLAY
   have HX := hide1 hX
   clear hlay hv hX
   go_wp2_with fail
   refine HLAY.out.mono ?_
   rintro e w2 ⟨rfl, hb2⟩
   go_wp2
   go_ret3
   exact ⟨by rw [<- HX.out]; rfl, hb.trans (hb2.mono hb.size)⟩
 . have h3' : (er != 0) = true := by simp [h3]
   have HR : Hid (R = ([], er, bad)) := by
    show R = _
    rw [hR]; simp only; rw [if_neg h3]
   clear hR
   go_enter func67, ntmps67
   go_wp2_with fail
   refine HCL.out.mono ?_
   rintro e w1 ⟨rfl, rfl⟩
   go_wp2_with fail
   refine HRL.out.mono ?_
   rintro e w1 ⟨⟨v, rfl, hv⟩, hb⟩
   clear hv
   go_wp2
   go_ret3
   exact ⟨by rw [HR.out]; rfl, hb⟩
section
attribute [local go_sem ↓] Go.wp_at_zero Go.wp_at_succ
theorem a_Asm' (s : ByteArray) (w : World) : Calls prog 67 #[.string s] w fun e w' => (∃ (X : ByteArray) (er n : Int), e = .returned (.tuple #[.string X, .int .i64 er, .int .i64 n])) /\ Kept [] w w' :=
 (a_Assemble s w).mono (fun e w' h => ⟨⟨_, _, _, h.1⟩, Below.kept h.2 []⟩)
theorem u_Le4' (v : Int) (w : World) : Calls prog 89 #[.int .i64 v, .int .i64 4] w fun e w' => (∃ B : ByteArray, B.size = 4 /\ e = .returned (.string B)) /\ Kept [] w w' :=
 (v_Le4 v w).mono (fun e w' h => ⟨⟨_, leA_size v 4, h.1⟩, Below.kept h.2 []⟩)
def MadeR (w0 w' : World) (z : Nat) (e : Ending) : Prop := (e = .returned (.pointer none) \/ ∃ mb rb, w0.heap.size <= mb /\ w0.heap.size <= rb /\ e = .returned (.pointer (some ⟨mb, 0, none⟩)) /\ Mz w' mb rb z) /\ Kept [] w0 w'
theorem kept_new {w0 w w' : World} {mb rb : Nat} (h0 : Kept [] w0 w) (hk : Kept [mb, rb] w w') (h1 : w0.heap.size <= mb) (h2 : w0.heap.size <= rb) : Kept [] w0 w' :=
 ⟨hk.os.trans h0.os, hk.tape.trans h0.tape, hk.output.trans h0.output, Nat.le_trans h0.size hk.size, fun k q _ => (hk.block k (Nat.lt_of_lt_of_le q h0.size) (by simp; omega)).trans (h0.block k q (by simp))⟩
set_option maxRecDepth 100000 in
theorem k_built (s : ByteArray) (a b : Int) (w : World) : Calls prog 90 #[.string s, .int .i64 a, .int .i64 b] w fun e w' => MadeR w w' 4096 e := by
 have N := hide1 (m_New 4096 (by decide) w)
 go_enter func90, ntmps90
 go_wp2_with fail
 refine N.out.mono ?_
 rintro o w1 ⟨rfl, hm1, hk1⟩
 have M1 := hide1 hm1
 have K1 := hide1 hk1
 clear N hm1 hk1
 go_wp2_with fail
 refine (a_Asm' s _).mono ?_
 rintro o w2 ⟨⟨X, er, n, rfl⟩, hk2⟩
 have M2 := hide1 (M1.out.kept hk2)
 have K2 := hide1 (K1.out.trans hk2)
 clear hk2 M1 K1
 by_cases her : er = 0
 . have q : (er != 0) = false := by simp [her]
   have q' : (er == 0) = true := by simp [her]
   clear her
   have L1 := hide1 (m_Load _ _ _ 0 X w2 M2.out)
   go_wp2_with fail
   refine L1.out.mono ?_
   rintro o w3 ⟨⟨e, rfl⟩, hm3, hk3⟩
   have M3 := hide1 hm3
   have K3 := hide1 (kept_new K2.out hk3 (by omega) (by omega))
   clear L1 hm3 hk3 M2 K2
   go_wp2_with fail
   refine (u_Le4' a _).mono ?_
   rintro o w4 ⟨⟨A, hA, rfl⟩, hk4⟩
   have M4 := hide1 (M3.out.kept hk4)
   have K4 := hide1 (K3.out.trans hk4)
   clear hk4 M3 K3
   go_wp2_with fail
   refine (u_Le4' b _).mono ?_
   rintro o w5 ⟨⟨B, hB, rfl⟩, hk5⟩
   have M5 := hide1 (M4.out.kept hk5)
   have K5 := hide1 (K4.out.trans hk5)
   obtain ⟨c, hcg, hcz, hc⟩ := add_in A B (by omega)
   clear hk5 M4 K4 hA hB hcg hcz
   have L2 := hide1 (m_Load _ _ _ 1024 c w5 M5.out)
   go_wp2_with fail
   refine L2.out.mono ?_
   rintro o w6 ⟨⟨e, rfl⟩, hm6, hk6⟩
   have M6 := hide1 hm6
   have K6 := hide1 (kept_new K5.out hk6 (by omega) (by omega))
   clear L2 hm6 hk6 M5 K5
   go_wp2_with fail
   go_ret
   exact ⟨.inr ⟨_, _, by omega, by omega, rfl, M6.out⟩, K6.out⟩
 . exact zq363
structure LOp where
 k : Int
 a : Int
 b : Int
 c : Int
 s : ByteArray
def LOp.v (x : LOp) : Value := .agg #[.int .i64 x.k, .int .i64 x.a, .int .i64 x.b, .int .i64 x.c, .string x.s]
def LOp.o (x : LOp) : Obj := .cells #[.int .i64 x.k, .int .i64 x.a, .int .i64 x.b, .int .i64 x.c, .string x.s] 56
structure LOk (x : LOp) : Prop where
 a0 : -9223372036854775808 <= x.a
 a1 : x.a <= 9223372036854775807
 b0 : -9223372036854775808 <= x.b
 b1 : x.b <= 9223372036854775807
 c0 : -9223372036854775808 <= x.c
 c1 : x.c <= 9223372036854775807
 s1 : x.s.size <= 1125899906842624
def MPost (w : World) (mb rb z : Nat) (o : Ending) (w' : World) : Prop := BoolR o /\ Mz w' mb rb z /\ Kept [mb, rb] w w'
theorem kept_of {F : List Nat} {w w' : World} (h : Kept [] w w') : Kept F w w' := h.mono (by simp)
theorem kept_out {w0 w w' : World} {mb rb nb qb : Nat} (h0 : Kept [mb, rb] w0 w) (hk : Kept [nb, qb] w w') (h1 : w0.heap.size <= nb) (h2 : w0.heap.size <= qb) : Kept [mb, rb] w0 w' :=
 ⟨hk.os.trans h0.os, hk.tape.trans h0.tape, hk.output.trans h0.output, Nat.le_trans h0.size hk.size, fun k q hn => (hk.block k (Nat.lt_of_lt_of_le q h0.size) (by simp; omega)).trans (h0.block k q hn)⟩
set_option maxRecDepth 100000 in
theorem k_twin (mb rb z : Nat) (n : Int) (w : World) (hw : Hid (Mz w mb rb z)) : Calls prog 31 #[.pointer (some ⟨mb, 0, none⟩), .int .i64 n] w fun o w' => MPost w mb rb z o w' := by
 have l0 := hw.out.m.lt
 have C := hide1 (m_Copy mb rb z w hw.out)
 go_enter func31, ntmps31
 go_wp2_with fail
 refine C.out.mono ?_
 rintro o w1 ⟨rfl, hy1, hk1⟩
 have Y1 := hide1 hy1
 have M1 := hide1 (hw.out.kept hk1)
 have K1 := hide1 hk1
 have s1 := hk1.size
 clear C hy1 hk1
 go_wp2_with fail
 refine (m_Flush w.heap.size w1).mono ?_
 rintro o w1' ⟨rfl, rfl⟩
 go_wp2_with fail
 refine (m_Run mb rb z n w1' M1.out).mono ?_
 rintro o w2 ⟨⟨v, er, q0, q1, rfl⟩, hm, hk⟩
 have M2 := hide1 hm
 have Y2 := hide1 (Y1.out.more hk (by simp; omega) (by simp; omega))
 have K2 := hide1 ((kept_of K1.out).trans hk)
 clear hm hk M1 Y1 K1 q0 q1
 go_wp2_with fail
 refine (m_Run w.heap.size (w.heap.size + 1) z n w2 Y2.out).mono ?_
 rintro o w3 ⟨⟨v2, er2, q0, q1, rfl⟩, hm, hk⟩
 have Y3 := hide1 hm
 have M3 := hide1 (M2.out.more hk (by simp; omega) (by simp; omega))
 have K3 := hide1 (kept_out K2.out hk (by omega) (by omega))
 clear hm hk M2 Y2 K2 q0 q1
 go_wp2_with fail
 refine (m_Show mb rb w3 M3.out.m).mono ?_
 rintro o w4 ⟨⟨s, z0, z1, rfl⟩, hk⟩
 have M4 := hide1 (M3.out.kept hk)
 have Y4 := hide1 (Y3.out.kept hk)
 have K4 := hide1 (K3.out.trans (kept_of hk))
 clear hk M3 Y3 K3 z0 z1
 go_wp2_with fail
 refine (m_Show w.heap.size (w.heap.size + 1) w4 Y4.out.m).mono ?_
 rintro o w5 ⟨⟨t, z0, z1, rfl⟩, hk⟩
 have M5 := hide1 (M4.out.kept hk)
 have Y5 := hide1 (Y4.out.kept hk)
 have K5 := hide1 (K4.out.trans (kept_of hk))
 clear hk M4 Y4 K4 z0 z1
 go_wp2_with fail
 refine (k_ram mb rb z w5 M5).mono ?_
 rintro o w6 ⟨⟨r, zr, rfl⟩, rfl⟩
 clear zr
 go_wp2_with fail
 refine (k_ram w.heap.size (w.heap.size + 1) z w6 Y5).mono ?_
 rintro o w7 ⟨⟨r2, zr, rfl⟩, rfl⟩
 exact zq364
set_option maxRecDepth 100000 in
theorem k_reset (mb rb z : Nat) (w : World) (hw : Hid (Mz w mb rb z)) : Calls prog 71 #[.pointer (some ⟨mb, 0, none⟩)] w fun o w' => MPost w mb rb z o w' := by
 have l0 := hw.out.m.lt
 have hz := hw.out.le
 go_enter func71, ntmps71
 go_wp2_with fail
 refine (k_ram mb rb z w hw).mono ?_
 rintro o w1 ⟨⟨r, zr, rfl⟩, rfl⟩
 clear zr
 go_wp2_with fail
 refine (m_Size mb rb z w1 hw.out).mono ?_
 rintro o w1 ⟨rfl, rfl⟩
 go_wp2_with fail
 refine (m_Reset mb rb z w1 hw.out).mono ?_
 rintro o w2 ⟨rfl, hm, hk⟩
 have M2 := hide1 hm
 have K2 := hide1 hk
 have s2 := hk.size
 clear hm hk
 go_wp2_with fail
 refine (m_New z hz w2).mono ?_
 rintro o w3 ⟨rfl, hy, hk⟩
 have Y3 := hide1 hy
 have M3 := hide1 (M2.out.kept hk)
 have K3 := hide1 (K2.out.trans (kept_of hk))
 clear hy hk M2 K2
 go_wp2_with fail
 refine (m_Show mb rb w3 M3.out.m).mono ?_
 rintro o w4 ⟨⟨s, z0, z1, rfl⟩, hk⟩
 have M4 := hide1 (M3.out.kept hk)
 have Y4 := hide1 (Y3.out.kept hk)
 have K4 := hide1 (K3.out.trans (kept_of hk))
 clear hk M3 Y3 K3 z0 z1
 go_wp2_with fail
 refine (m_Show _ _ w4 Y4.out.m).mono ?_
 rintro o w5 ⟨⟨t, z0, z1, rfl⟩, hk⟩
 have M5 := hide1 (M4.out.kept hk)
 have K5 := hide1 (K4.out.trans (kept_of hk))
 clear hk M4 Y4 K4 z0 z1
 go_wp2_with fail
 refine (k_ram mb rb z w5 M5).mono ?_
 rintro o w6 ⟨⟨r2, zr, rfl⟩, rfl⟩
 exact zq364
theorem box_not {w : World} {mb rb z : Nat} (h : Mz w mb rb z) : ¬ w.heap.size ∈ [mb, rb] := by have := h.m.lt; simp; omega
set_option maxRecDepth 100000 in
theorem k_plain2 (mb rb z : Nat) (a b c : Int) (s : ByteArray) (w : World) (hw : Hid (Mz w mb rb z)) : Calls prog 33 #[.pointer (some ⟨mb, 0, none⟩), .agg #[.int .i64 2, .int .i64 a, .int .i64 b, .int .i64 c, .string s]] w fun o w' => MPost w mb rb z o w' := by
 have k0 : Kept [] w (w.alloc (.cells #[.int .i64 2, .int .i64 a, .int .i64 b, .int .i64 c, .string s] 36)) := zq136
 have hn := box_not hw.out
 have M0 := hide1 (hw.out.kept k0)
 have K0 : Hid (Kept [mb, rb] w (w.alloc (.cells #[.int .i64 2, .int .i64 a, .int .i64 b, .int .i64 c, .string s] 36))) := zq138
 have ob0 := BoxF.new w [.int .i64 2, .int .i64 a, .int .i64 b, .int .i64 c, .string s] 36
 clear k0 hw
 go_enter func33, ntmps33
 go_wp2_with fail
 refine (m_Load mb rb z b s _ M0.out).mono ?_
 exact zq365
set_option maxRecDepth 100000 in
theorem k_plain4 (mb rb z : Nat) (a b c : Int) (s : ByteArray) (w : World) (hw : Hid (Mz w mb rb z)) : Calls prog 33 #[.pointer (some ⟨mb, 0, none⟩), .agg #[.int .i64 4, .int .i64 a, .int .i64 b, .int .i64 c, .string s]] w fun o w' => MPost w mb rb z o w' := by
 have k0 : Kept [] w (w.alloc (.cells #[.int .i64 4, .int .i64 a, .int .i64 b, .int .i64 c, .string s] 36)) := zq136
 have hn := box_not hw.out
 have M0 := hide1 (hw.out.kept k0)
 have K0 : Hid (Kept [mb, rb] w (w.alloc (.cells #[.int .i64 4, .int .i64 a, .int .i64 b, .int .i64 c, .string s] 36))) := zq138
 have ob0 := BoxF.new w [.int .i64 4, .int .i64 a, .int .i64 b, .int .i64 c, .string s] 36
 clear k0 hw
 go_enter func33, ntmps33
 go_wp2_with fail
 refine (m_Run mb rb z b _ M0.out).mono ?_
 rintro o w1 ⟨⟨v, er, q0, q1, rfl⟩, hm, hk⟩
 exact zq366
set_option maxRecDepth 100000 in
theorem k_plain5 (mb rb z : Nat) (a b c : Int) (s : ByteArray) (w : World) (hw : Hid (Mz w mb rb z)) : Calls prog 33 #[.pointer (some ⟨mb, 0, none⟩), .agg #[.int .i64 5, .int .i64 a, .int .i64 b, .int .i64 c, .string s]] w fun o w' => MPost w mb rb z o w' := by
 have k0 : Kept [] w (w.alloc (.cells #[.int .i64 5, .int .i64 a, .int .i64 b, .int .i64 c, .string s] 36)) := zq136
 have hn := box_not hw.out
 have M0 := hide1 (hw.out.kept k0)
 have K0 : Hid (Kept [mb, rb] w (w.alloc (.cells #[.int .i64 5, .int .i64 a, .int .i64 b, .int .i64 c, .string s] 36))) := zq138
 have ob0 := BoxF.new w [.int .i64 5, .int .i64 a, .int .i64 b, .int .i64 c, .string s] 36
 clear k0 hw
 go_enter func33, ntmps33
 go_wp2_with fail
 refine (m_Tick mb rb z b _ M0.out).mono ?_
 exact zq365
set_option maxRecDepth 100000 in
theorem k_plain6 (mb rb z : Nat) (a b c : Int) (s : ByteArray) (w : World) (hw : Hid (Mz w mb rb z)) : Calls prog 33 #[.pointer (some ⟨mb, 0, none⟩), .agg #[.int .i64 6, .int .i64 a, .int .i64 b, .int .i64 c, .string s]] w fun o w' => MPost w mb rb z o w' := by
 have k0 : Kept [] w (w.alloc (.cells #[.int .i64 6, .int .i64 a, .int .i64 b, .int .i64 c, .string s] 36)) := zq136
 have hn := box_not hw.out
 have M0 := hide1 (hw.out.kept k0)
 have K0 : Hid (Kept [mb, rb] w (w.alloc (.cells #[.int .i64 6, .int .i64 a, .int .i64 b, .int .i64 c, .string s] 36))) := zq138
 have ob0 := BoxF.new w [.int .i64 6, .int .i64 a, .int .i64 b, .int .i64 c, .string s] 36
 clear k0 hw
 go_enter func33, ntmps33
 go_wp2_with fail
 refine (m_Feed mb rb z s _ M0.out).mono ?_
 rintro o w1 ⟨⟨v, er, q0, q1, q2, rfl⟩, hm, hk⟩
 have M1 := hide1 hm
 have K1 := hide1 (K0.out.trans hk)
 have ob1 := ob0.more hk hn
 have o4 := ob1.cell 4 _ rfl
 exact zq367
set_option maxRecDepth 100000 in
theorem k_plain8 (mb rb z : Nat) (a b c : Int) (s : ByteArray) (w : World) (hw : Hid (Mz w mb rb z)) : Calls prog 33 #[.pointer (some ⟨mb, 0, none⟩), .agg #[.int .i64 8, .int .i64 a, .int .i64 b, .int .i64 c, .string s]] w fun o w' => MPost w mb rb z o w' := by
 have k0 : Kept [] w (w.alloc (.cells #[.int .i64 8, .int .i64 a, .int .i64 b, .int .i64 c, .string s] 36)) := zq136
 have hn := box_not hw.out
 have M0 := hide1 (hw.out.kept k0)
 have K0 : Hid (Kept [mb, rb] w (w.alloc (.cells #[.int .i64 8, .int .i64 a, .int .i64 b, .int .i64 c, .string s] 36))) := zq138
 have ob0 := BoxF.new w [.int .i64 8, .int .i64 a, .int .i64 b, .int .i64 c, .string s] 36
 clear k0 hw
 go_enter func33, ntmps33
 go_wp2_with fail
 refine (k_reset mb rb z _ M0).mono ?_
 rintro o w1 ⟨⟨r, rfl⟩, hm, hk⟩
 exact zq366
set_option maxRecDepth 100000 in
theorem k_plain7 (mb rb z : Nat) (a b c : Int) (s : ByteArray) (w : World) (hw : Hid (Mz w mb rb z)) : Calls prog 33 #[.pointer (some ⟨mb, 0, none⟩), .agg #[.int .i64 7, .int .i64 a, .int .i64 b, .int .i64 c, .string s]] w fun o w' => MPost w mb rb z o w' := by
 have k0 : Kept [] w (w.alloc (.cells #[.int .i64 7, .int .i64 a, .int .i64 b, .int .i64 c, .string s] 36)) := zq136
 have hn := box_not hw.out
 have M0 := hide1 (hw.out.kept k0)
 have K0 : Hid (Kept [mb, rb] w (w.alloc (.cells #[.int .i64 7, .int .i64 a, .int .i64 b, .int .i64 c, .string s] 36))) := zq138
 have ob0 := BoxF.new w [.int .i64 7, .int .i64 a, .int .i64 b, .int .i64 c, .string s] 36
 clear k0 hw
 go_enter func33, ntmps33
 go_wp2_with fail
 refine (m_Drain mb rb z _ M0.out).mono ?_
 rintro o w1 ⟨⟨t, z0, rfl⟩, hm, hk⟩
 have M1 := hide1 hm
 have K1 := hide1 (K0.out.trans hk)
 clear hm hk M0 K0 z0
 go_wp2_with fail
 refine (m_Drain mb rb z _ M1.out).mono ?_
 rintro o w2 ⟨⟨t2, z0, rfl⟩, hm, hk⟩
 have M2 := hide1 hm
 have K2 := hide1 (K1.out.trans hk)
 clear hm hk M1 K1 z0
 exact zq368
set_option maxRecDepth 100000 in
theorem k_plain10 (mb rb z : Nat) (a b c : Int) (s : ByteArray) (w : World) (hw : Hid (Mz w mb rb z)) : Calls prog 33 #[.pointer (some ⟨mb, 0, none⟩), .agg #[.int .i64 10, .int .i64 a, .int .i64 b, .int .i64 c, .string s]] w fun o w' => MPost w mb rb z o w' := by
 have k0 : Kept [] w (w.alloc (.cells #[.int .i64 10, .int .i64 a, .int .i64 b, .int .i64 c, .string s] 36)) := zq136
 have hn := box_not hw.out
 have M0 := hide1 (hw.out.kept k0)
 have K0 : Hid (Kept [mb, rb] w (w.alloc (.cells #[.int .i64 10, .int .i64 a, .int .i64 b, .int .i64 c, .string s] 36))) := zq138
 have ob0 := BoxF.new w [.int .i64 10, .int .i64 a, .int .i64 b, .int .i64 c, .string s] 36
 clear k0 hw
 go_enter func33, ntmps33
 go_wp2_with fail
 refine (m_Show mb rb _ M0.out.m).mono ?_
 rintro o w1 ⟨⟨t, z0, z1, rfl⟩, hk⟩
 have M1 := hide1 (M0.out.kept hk)
 have K1 := hide1 (K0.out.trans (kept_of hk))
 clear hk M0 K0 z0 z1
 go_wp2_with fail
 refine (m_Flush mb w1).mono ?_
 rintro o w1' ⟨rfl, rfl⟩
 go_wp2_with fail
 refine (m_Show mb rb _ M1.out.m).mono ?_
 rintro o w2 ⟨⟨t2, z0, z1, rfl⟩, hk⟩
 have M2 := hide1 (M1.out.kept hk)
 have K2 := hide1 (K1.out.trans (kept_of hk))
 clear hk M1 K1 z0 z1
 exact zq368
set_option maxRecDepth 100000 in
theorem k_plain22 (mb rb z : Nat) (a b c : Int) (s : ByteArray) (w : World) (hw : Hid (Mz w mb rb z)) : Calls prog 33 #[.pointer (some ⟨mb, 0, none⟩), .agg #[.int .i64 22, .int .i64 a, .int .i64 b, .int .i64 c, .string s]] w fun o w' => MPost w mb rb z o w' := by
 have k0 : Kept [] w (w.alloc (.cells #[.int .i64 22, .int .i64 a, .int .i64 b, .int .i64 c, .string s] 36)) := zq136
 have hn := box_not hw.out
 have M0 := hide1 (hw.out.kept k0)
 have K0 : Hid (Kept [mb, rb] w (w.alloc (.cells #[.int .i64 22, .int .i64 a, .int .i64 b, .int .i64 c, .string s] 36))) := zq138
 have ob0 := BoxF.new w [.int .i64 22, .int .i64 a, .int .i64 b, .int .i64 c, .string s] 36
 clear k0 hw
 go_enter func33, ntmps33
 go_wp2_with fail
 refine (a_Asm' s _).mono ?_
 rintro o w1 ⟨⟨X, er, n, rfl⟩, hk⟩
 have M1 := hide1 (M0.out.kept hk)
 have K1 := hide1 (K0.out.trans (kept_of hk))
 have ob1 := ob0.kept hk
 have o2 := ob1.cell 2 _ rfl
 clear hk M0 K0
 by_cases her : er = 0
 . have q : (er == 0) = true := by simp [her]
   clear her
   go_wp2_with fail
   refine (m_Load mb rb z b X _ M1.out).mono ?_
   rintro o w2 ⟨⟨e, rfl⟩, hm, hk⟩
   have M2 := hide1 hm
   have K2 := hide1 (K1.out.trans hk)
   clear hm hk M1 K1
   exact zq368
 . have q : (er == 0) = false := by simp [her]
   clear her
   exact zq369
set_option maxRecDepth 100000 in
theorem k_plainN (mb rb z : Nat) (k a b c : Int) (s : ByteArray) (hk : ¬ (k = 2 \/ (4 <= k /\ k <= 8) \/ k = 10 \/ k = 22)) (w : World) (hw : Hid (Mz w mb rb z)) : Calls prog 33 #[.pointer (some ⟨mb, 0, none⟩), .agg #[.int .i64 k, .int .i64 a, .int .i64 b, .int .i64 c, .string s]] w fun o w' => MPost w mb rb z o w' := by
 have k0 : Kept [] w (w.alloc (.cells #[.int .i64 k, .int .i64 a, .int .i64 b, .int .i64 c, .string s] 36)) := zq136
 have M0 := hide1 (hw.out.kept k0)
 have K0 : Hid (Kept [mb, rb] w (w.alloc (.cells #[.int .i64 k, .int .i64 a, .int .i64 b, .int .i64 c, .string s] 36))) := zq138
 have q2 : (k == 2) = false := by simp; omega
 have q4 : (k == 4) = false := by simp; omega
 have q5 : (k == 5) = false := by simp; omega
 have q6 : (k == 6) = false := by simp; omega
 have q7 : (k == 7) = false := by simp; omega
 have q8 : (k == 8) = false := by simp; omega
 have q10 : (k == 10) = false := by simp; omega
 have q22 : (k == 22) = false := by simp; omega
 clear k0 hw hk
 go_enter func33, ntmps33
 go_wp2_with fail
 go_ret
 exact ⟨⟨_, rfl⟩, M0.out, K0.out⟩
theorem k_plain (mb rb z : Nat) (k a b c : Int) (s : ByteArray) (w : World) (hw : Hid (Mz w mb rb z)) : Calls prog 33 #[.pointer (some ⟨mb, 0, none⟩), .agg #[.int .i64 k, .int .i64 a, .int .i64 b, .int .i64 c, .string s]] w fun o w' => MPost w mb rb z o w' := by
 by_cases h : k = 2 \/ (4 <= k /\ k <= 8) \/ k = 10 \/ k = 22
 . have : k = 2 \/ k = 4 \/ k = 5 \/ k = 6 \/ k = 7 \/ k = 8 \/ k = 10 \/ k = 22 := by omega
   rcases this with rfl | rfl | rfl | rfl | rfl | rfl | rfl | rfl
   . exact k_plain2 mb rb z a b c s w hw
   . exact k_plain4 mb rb z a b c s w hw
   . exact k_plain5 mb rb z a b c s w hw
   . exact k_plain6 mb rb z a b c s w hw
   . exact k_plain7 mb rb z a b c s w hw
   . exact k_plain8 mb rb z a b c s w hw
   . exact k_plain10 mb rb z a b c s w hw
   . exact k_plain22 mb rb z a b c s w hw
 . exact k_plainN mb rb z k a b c s h w hw
def TPost (w : World) (mb rb z : Nat) (o : Ending) (w' : World) : Prop := o = .returned (.bool true) /\ Mz w' mb rb z /\ Kept [mb, rb] w w'
def ptrs (U : List Nat) : List Value := U.map fun b => .pointer (some ⟨b, 0, none⟩)
theorem own_kept {F : List Nat} {w w' : World} {B e size n : Nat} {v : Value} {xs : List Value} (h : w.ownsRow B e size v n xs) (hk : Kept F w w') (hn : ∀ k, v.ownBlock = some k -> k ∉ F) : w'.ownsRow B e size v n xs := by
 refine ⟨h.1, ?_⟩
 rcases h.2 with h' | ⟨g, cap, cur, hv, hB, hg, h1, h2, h3, h4⟩
 . exact .inl h'
 . exact .inr ⟨g, cap, cur, hv, hB, by rw [hk.block g (Array.getElem?_eq_some_iff.1 hg).1 (hn g (by rw [hv]; rfl))]; exact hg, h1, h2, h3, h4⟩
theorem grown_kept {w w' : World} {r : Option Nat} (h : w.grownBy w' r) : Kept r.toList w w' := ⟨h.os, h.tape, h.output, h.size, fun k hk hn => h.block k hk (fun e => hn (by rw [<- e]; simp))⟩
theorem own_new {v v' : Value} {g n c H : Nat} (hv : v' = .slice (some ⟨g, 0, none⟩) n c) (hat : v.ownBlock = some g \/ g = H) (k : Nat) (hk : v'.ownBlock = some k) : v.ownBlock = some k \/ k = H := by
 rw [hv] at hk
 simp only [Value.ownBlock, Option.some.injEq] at hk
 rw [<- hk]; exact hat
structure Kp1 where
 mb : Nat
 rb : Nat
 z : Nat
structure Kw (w : World) (wb : Nat) (P : List Kp1) (u : Value) : Prop where
 c0 : w.cell? ⟨wb, 0, none⟩ = some u
 fro : ∀ o, w.frozen? ⟨wb, o, none⟩ = false
 lt : wb < w.heap.size
 ox : w.ownsRow (wb + 1) 39 1 u P.length (ptrs (P.map Kp1.mb))
 pr : ∀ a (h : a < P.length), Mz w P[a].mb P[a].rb P[a].z
 ge : ∀ a (h : a < P.length), wb < P[a].mb /\ wb < P[a].rb
 su : ∀ a (h : a < P.length), u.ownBlock ≠ some P[a].mb /\ u.ownBlock ≠ some P[a].rb
 dj : ∀ a b (ha : a < P.length) (hb : b < P.length), a ≠ b -> P[a].mb ≠ P[b].mb /\ P[a].mb ≠ P[b].rb /\ P[a].rb ≠ P[b].mb /\ P[a].rb ≠ P[b].rb
theorem Kw.keep {w w' : World} {wb : Nat} {P : List Kp1} {u : Value} (h : Kw w wb P u) (hk : Kept [] w w') : Kw w' wb P u :=
 ⟨(hk.cell (p := ⟨wb, 0, none⟩) h.lt (by simp)).trans h.c0, fun o => (hk.frozen (p := ⟨wb, o, none⟩) h.lt (by simp)).trans (h.fro o), Nat.lt_of_lt_of_le h.lt hk.size, own_kept h.ox hk (by simp), fun a ha => (h.pr a ha).kept hk, h.ge, h.su, h.dj⟩
theorem Kw.act {w w' : World} {wb : Nat} {P : List Kp1} {u : Value} (h : Kw w wb P u) (j : Nat) (hj : j < P.length) (hm : Mz w' P[j].mb P[j].rb P[j].z) (hk : Kept [P[j].mb, P[j].rb] w w') : Kw w' wb P u := by
 have g := h.ge j hj
 have n0 : wb ∉ [P[j].mb, P[j].rb] := by simp; omega
 have nu : ∀ k, u.ownBlock = some k -> k ∉ [P[j].mb, P[j].rb] := fun k hk q => by
  simp at q
  rcases q with e | e
  . exact (h.su j hj).1 (by rw [hk, e])
  . exact (h.su j hj).2 (by rw [hk, e])
 refine ⟨(hk.cell (p := ⟨wb, 0, none⟩) h.lt n0).trans h.c0, fun o => (hk.frozen (p := ⟨wb, o, none⟩) h.lt n0).trans (h.fro o), Nat.lt_of_lt_of_le h.lt hk.size, own_kept h.ox hk nu, fun a ha => ?_, h.ge, h.su, h.dj⟩
 by_cases e : a = j
 . subst e; exact hm
 . have d := h.dj a j ha hj e
   exact (h.pr a ha).more hk (by simp; exact ⟨d.1, d.2.1⟩) (by simp; exact ⟨d.2.2.1, d.2.2.2⟩)
theorem Kw.push {w w' : World} {wb : Nat} {P : List Kp1} {u : Value} (h : Kw w wb P u) (p : Kp1) (hp : Mz w p.mb p.rb p.z) (N : Nat) (hN : N <= p.mb /\ N <= p.rb) (h0 : wb < N) (hu : ∀ k, u.ownBlock = some k -> k < N) (hP : ∀ a (h : a < P.length), P[a].mb < N /\ P[a].rb < N) (g cap : Nat) (hg : w.grownBy w' u.ownBlock) (ho : w'.ownsRow (wb + 1) 39 1 (.slice (some ⟨g, 0, none⟩) (P.length + 1) cap) (P.length + 1) (ptrs (P.map Kp1.mb) ++ [.pointer (some ⟨p.mb, 0, none⟩)])) (hat : u.ownBlock = some g \/ g = w.heap.size) :
 Kw (w'.setCell ⟨wb, 0, none⟩ (.slice (some ⟨g, 0, none⟩) (P.length + 1) cap)) wb (P ++ [p]) (.slice (some ⟨g, 0, none⟩) (P.length + 1) cap) := by
 have hk := grown_kept hg
 have n0 : wb ∉ u.ownBlock.toList := fun q => by have := (h.ox.lt wb (by simpa using q)).1; omega
 have hs := hk.size
 have hl := h.lt
 have ks : Kept [wb] w' (w'.setCell ⟨wb, 0, none⟩ (.slice (some ⟨g, 0, none⟩) (P.length + 1) cap)) := (Kept.refl _ _).setCell (.inl (by simp)) _
 have hg1 : wb + 1 <= g := (ho.lt g rfl).1
 have lp := hp.m.lt
 have on := fun k (hk : (Value.slice (some ⟨g, 0, none⟩) (P.length + 1) cap).ownBlock = some k) => own_new (v := u) rfl hat k hk
 have mz : ∀ mb rb z, Mz w mb rb z -> (wb < mb /\ wb < rb) -> (u.ownBlock ≠ some mb /\ u.ownBlock ≠ some rb) -> Mz (w'.setCell ⟨wb, 0, none⟩ (.slice (some ⟨g, 0, none⟩) (P.length + 1) cap)) mb rb z := fun mb rb z hm h1 h2 =>
  (hm.more hk (fun q => h2.1 (by simpa using q)) (fun q => h2.2 (by simpa using q))).more ks (by simp; omega) (by simp; omega)
 have pu : u.ownBlock ≠ some p.mb /\ u.ownBlock ≠ some p.rb := ⟨fun e => by have := hu _ e; omega, fun e => by have := hu _ e; omega⟩
 refine ⟨World.cell?_setCell_same _ _ _ ((hk.cell (p := ⟨wb, 0, none⟩) hl n0).trans h.c0), fun o => by rw [World.frozen?_setCell]; exact (hk.frozen (p := ⟨wb, o, none⟩) hl n0).trans (h.fro o), Nat.lt_of_lt_of_le (Nat.lt_of_lt_of_le hl hs) ks.size, ?_, ?_, ?_, ?_, ?_⟩
 . have := own_kept ho ks (fun k hk q => by simp only [Value.ownBlock, Option.some.injEq] at hk; simp at q; omega)
   simpa [ptrs] using this
 . intro a ha
   rw [List.getElem_append]
   split
   . next q => exact mz _ _ _ (h.pr a q) (h.ge a q) (h.su a q)
   . simp only [List.getElem_singleton]; exact mz _ _ _ hp ⟨by omega, by omega⟩ pu
 . intro a ha
   rw [List.getElem_append]
   split
   . next q => exact h.ge a q
   . simp only [List.getElem_singleton]; omega
 . intro a ha
   rw [List.getElem_append]
   split
   . next q =>
     have l := (h.pr a q).m.lt
     have s := h.su a q
     exact ⟨fun e => by rcases on _ e with r | r; exact s.1 r; omega, fun e => by rcases on _ e with r | r; exact s.2 r; omega⟩
   . simp only [List.getElem_singleton]
     exact ⟨fun e => by rcases on _ e with r | r; exact pu.1 r; omega, fun e => by rcases on _ e with r | r; exact pu.2 r; omega⟩
 . intro a b ha hb hab
   rw [List.getElem_append, List.getElem_append]
   split
   . next q =>
     split
     . next q2 => exact h.dj a b q q2 hab
     . simp only [List.getElem_singleton]
       have := hP a q
       omega
   . next q =>
     split
     . next q2 =>
       simp only [List.getElem_singleton]
       have := hP b q2
       omega
     . next q2 => simp at ha hb; omega
theorem kept_below {F : List Nat} {w w' : World} {wb : Nat} (h : Kept F w w') (hF : ∀ k ∈ F, wb <= k) (hl : wb <= w.heap.size) : Below wb w w' :=
 ⟨h.os, h.tape, h.output, h.size, fun k hk => h.block k (by omega) (fun q => by have := hF k q; omega)⟩
theorem info_xm : (prog.info? 39).map (fun i => (i.zero, i.size, i.bytes)) = some (some (.pointer none), 1, 8) := by kernel_rfl
def KwH (w : World) (wb n : Nat) : Prop := ∃ P u, Kw w wb P u /\ P.length <= n
theorem KwH.keep {w w' : World} {wb n : Nat} (h : KwH w wb n) (hk : Kept [] w w') : KwH w' wb n := by
 obtain ⟨P, u, a, b⟩ := h; exact ⟨P, u, a.keep hk, b⟩
theorem KwH.mono {w : World} {wb n m : Nat} (h : KwH w wb n) (hn : n <= m) : KwH w wb m := by
 obtain ⟨P, u, a, b⟩ := h; exact ⟨P, u, a, by omega⟩
theorem KwH.lt {w : World} {wb n : Nat} (h : KwH w wb n) : wb < w.heap.size := by
 obtain ⟨P, u, a, b⟩ := h; exact a.lt
theorem app_k {w : World} {wb : Nat} {P : List Kp1} {u : Value} (h : Kw w wb P u) (p : Kp1) (hp : Mz w p.mb p.rb p.z) (N : Nat) (hN : N <= p.mb /\ N <= p.rb) (h0 : wb < N) (hu : ∀ k, u.ownBlock = some k -> k < N) (hP : ∀ a (h : a < P.length), P[a].mb < N /\ P[a].rb < N) (ty : Nat) (hU : P.length <= 1073741824) : ∃ g cap w', (Builtin.append_ #[30, 30] ty #[u, .slice (some ⟨w.heap.size, 0, none⟩) 1 1]).run prog (w.alloc (.cells #[.pointer (some ⟨p.mb, 0, none⟩)] 39)) = .ok (.slice (some ⟨g, 0, none⟩) (P.length + 1) cap) w' /\ Kw (w'.setCell ⟨wb, 0, none⟩ (.slice (some ⟨g, 0, none⟩) (P.length + 1) cap)) wb (P ++ [p]) (.slice (some ⟨g, 0, none⟩) (P.length + 1) cap) /\ w'.cell? ⟨wb, 0, none⟩ = some u /\ (∀ o, w'.frozen? ⟨wb, o, none⟩ = false) /\ wb < w'.heap.size /\ Kept (wb :: u.ownBlock.toList) w w' := by
 obtain ⟨i0, hi, hz0, hz1, hz2⟩ := info_parts info_xm
 have k0 : Kept [] w (w.alloc (.cells #[.pointer (some ⟨p.mb, 0, none⟩)] 39)) := zq136
 have ha := h.keep k0
 have hl := h.lt
 obtain ⟨g, cap, w', hr, ho, hg, hat, hlt⟩ := run_append_lies (P := prog) (w.alloc (.cells #[.pointer (some ⟨p.mb, 0, none⟩)] 39)) 30 ty (wb + 1) 39 i0 (.pointer none) 1 8 Tryz.underlying30 hi hz0 hz1 hz2 rfl (by decide) u P.length (ptrs (P.map Kp1.mb)) ha.ox ⟨w.heap.size, 0, none⟩ 1 1 [.pointer (some ⟨p.mb, 0, none⟩)] rfl (by
  intro j x hj
  match j, hj with
  | 0, hj => simp at hj; subst hj; simp [Addr.add]
  | j + 1, hj => simp at hj) (by intro x hx; simp at hx; subst hx; rfl) (by decide) zq467 (by omega) (by simp; omega) _ rfl
 have hk := grown_kept hg
 have n0 : wb ∉ u.ownBlock.toList := fun q => by have := (ha.ox.lt wb (by simpa using q)).1; omega
 refine ⟨g, cap, w', hr, ha.push p (hp.kept k0) N hN h0 hu hP g cap hg ho hat, (hk.cell (p := ⟨wb, 0, none⟩) ha.lt n0).trans ha.c0, fun o => (hk.frozen (p := ⟨wb, o, none⟩) ha.lt n0).trans (ha.fro o), Nat.lt_of_lt_of_le ha.lt hk.size, ?_⟩
 exact (k0.mono (by simp)).trans (hk.mono (fun k q => by simp at q |-; exact .inr q))
theorem wpList_appk {ops : Array Oper} {rest : List Oper} {o : Oper} {a : Act} {Q : Exit -> Act -> World -> Prop} (hgd : o.guard = none) (s x : Operand) (ho : o.op = .call { callee := .builtin .append, args := #[s, x], argTypes := #[30, 30] })
 {w : World} {wb : Nat} {P : List Kp1} {u : Value} (h : Kw w wb P u) (p : Kp1) (hp : Mz w p.mb p.rb p.z) (N : Nat) (hN : N <= p.mb /\ N <= p.rb) (h0 : wb < N) (hu : ∀ k, u.ownBlock = some k -> k < N) (hP : ∀ a (h : a < P.length), P[a].mb < N /\ P[a].rb < N) (hU : P.length <= 1073741824) (hs : a.eval s = u) (hx : a.eval x = .slice (some ⟨w.heap.size, 0, none⟩) 1 1)
 (hK : ∀ g cap w', Kw (w'.setCell ⟨wb, 0, none⟩ (.slice (some ⟨g, 0, none⟩) (P.length + 1) cap)) wb (P ++ [p]) (.slice (some ⟨g, 0, none⟩) (P.length + 1) cap) -> w'.cell? ⟨wb, 0, none⟩ = some u -> (∀ o, w'.frozen? ⟨wb, o, none⟩ = false) -> wb < w'.heap.size -> Kept (wb :: u.ownBlock.toList) w w' -> wpList prog ops Q rest (a.put o.dst (.slice (some ⟨g, 0, none⟩) (P.length + 1) cap)) w') :
 wpList prog ops Q (o :: rest) a (w.alloc (.cells #[.pointer (some ⟨p.mb, 0, none⟩)] 39)) := by
 refine wpList_plain hgd fun K hK' => ?_
 obtain ⟨g, cap, w', hr, h1, h2, h3, h4, h5⟩ := app_k h p hp N hN h0 hu hP o.type hU
 unfold Oper.wp execOp
 simp only [ho, resolve, invoke, builtin, Sem.run_bind, Sem.run_pure, Result.andThen_ok, List.map_toArray, List.map_cons, List.map_nil, hs, hx, hr]
 exact hK' _ _ (hK g cap w' h1 h2 h3 h4 h5)
set_option maxRecDepth 100000 in
theorem k_join (wb : Nat) (P : List Kp1) (u : Value) (p : Kp1) (N : Nat) (hN : N <= p.mb /\ N <= p.rb) (h0 : wb < N) (hu : ∀ k, u.ownBlock = some k -> k < N) (hP : ∀ a (h : a < P.length), P[a].mb < N /\ P[a].rb < N) (hU : P.length <= 1073741824) (w : World) (hw : Hid (Kw w wb P u)) (hp : Hid (Mz w p.mb p.rb p.z)) :
 Calls prog 26 #[.pointer (some ⟨wb, 0, none⟩), .pointer (some ⟨p.mb, 0, none⟩)] w fun e w' => e = .returned (.tuple #[]) /\ KwH w' wb (P.length + 1) /\ Kept (wb :: u.ownBlock.toList) w w' := by
 have c0 := hw.out.c0
 have fr := hw.out.fro
 have hl := hw.out.lt
 have hl' : ¬ wb = w.heap.size := by omega
 go_enter func26, ntmps26
 go_wp2_with (at_builtin; refine wpList_appk rfl _ _ rfl hw.out p hp.out N hN h0 hu hP hU rfl rfl ?_)
 intro g cap w3 L4 d0 df dl B3
 have HL := hide1 (And.intro L4 (B3.setCell (p := ⟨wb, 0, none⟩) (.inl (by simp)) (.slice (some ⟨g, 0, none⟩) (P.length + 1) cap)))
 clear L4 B3 c0 fr
 go_wp2_with fail
 go_end0
 exact ⟨rfl, ⟨_, _, HL.out.1, by simp⟩, HL.out.2⟩
end
namespace Byt
def opT (c : Nat) (i : Ins) : List UInt8 :=
 if c = 100 then regName i.rd.toNat else if c = 115 then regName i.rs1.toNat else if c = 116 then regName i.rs2.toNat else if c = 117 then Lib.itoa i.rs1
 else if c = 109 then Lib.itoa i.im ++ 40 :: (regName i.rs1.toNat ++ [41]) else Lib.itoa i.im
def sepT : List Nat -> Bool -> Ins -> List UInt8
 | [], _, _ => []
 | c :: cs, m, i => (if m then [44, 32] else [32]) ++ (opT c i ++ sepT cs true i)
end Byt
structure Tame (i : Ins) : Prop where
 d0 : 0 <= i.rd
 d1 : i.rd < 32
 s0 : 0 <= i.rs1
 s1 : i.rs1 < 32
 t0 : 0 <= i.rs2
 t1 : i.rs2 < 32
 i0 : -10000000000 < i.im
 i1 : i.im < 10000000000
end Go.Proofs.YtmlgonbhoknoiabGreatDoor
