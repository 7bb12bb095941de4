import Derived.Test.YtmlgonbhoknoiabGreatDoorYAK
set_option maxHeartbeats 8000000
set_option linter.all false
namespace Go.Proofs.YtmlgonbhoknoiabGreatDoor
open Go.RowKit Go.Proofs.Tryz
theorem leL_length (v : Int) : ∀ n, (leL v n).length = n
 | 0 => rfl
 | n + 1 => by simp [leL, leL_length v n]
theorem lay_step {L : List Ln} {k : Nat} {m : List UInt8} (h : k < L.length) : Byt.lay L (L.drop k) k m =
 if L[k].tg ≠ [] /\ Byt.findN L L[k].tg = L.length then ([], 8, k + 1) else
 if (Byt.wordD (Byt.aimed L L[k] m.length)).2 = 0 then Byt.lay L (L.drop (k + 1)) (k + 1) (m ++ Byt.leB (Byt.wordD (Byt.aimed L L[k] m.length)).1 L[k].i.ln.toNat) else ([], (Byt.wordD (Byt.aimed L L[k] m.length)).2, k + 1) := by
 rw [List.drop_eq_getElem_cons h]; rfl
theorem lay_no {L : List Ln} {k : Nat} {m : List UInt8} (h : k < L.length) (h1 : L[k].tg ≠ []) (h2 : Byt.findN L L[k].tg = L.length) : Byt.lay L (L.drop k) k m = ([], 8, k + 1) := by
 rw [lay_step h, if_pos ⟨h1, h2⟩]
theorem lay_yes {L : List Ln} {k : Nat} {m : List UInt8} (h : k < L.length) (h1 : ¬ (L[k].tg ≠ [] /\ Byt.findN L L[k].tg = L.length)) (i : Ins) (hi : Byt.aimed L L[k] m.length = i) : Byt.lay L (L.drop k) k m = if (Byt.wordD i).2 = 0 then Byt.lay L (L.drop (k + 1)) (k + 1) (m ++ Byt.leB (Byt.wordD i).1 L[k].i.ln.toNat) else ([], (Byt.wordD i).2, k + 1) := by
 rw [lay_step h, if_neg h1, hi]
theorem strNums_size (l : List Int) : (strOfNums l).size = l.length := by
 unfold strOfNums; simp [ByteArray.size]
theorem app_list (X B : ByteArray) : (X ++ B).data.toList = X.data.toList ++ B.data.toList := by
 rw [ByteArray.data_append, Array.toList_append]
theorem place_bd : ∀ (L : List Ln) (n : Nat), Tidy L -> 0 <= Byt.place L n /\ Byt.place L n <= 4 * L.length
 | [], n, _ => by cases n <;> simp [Byt.place]
 | l :: L, 0, _ => by simp [Byt.place]; omega
 | l :: L, n + 1, h => by
  have ih := place_bd L n (fun x hx => h x (List.mem_cons_of_mem _ hx))
  have := h l (by simp)
  simp only [Byt.place, List.length_cons]; omega
theorem a_layLines (p : Option Addr) (cap : Nat) (L : List Ln) (hL : L.length <= 5000) (hd : Hid (Tidy L)) (w : World) (hw : Hid (LnsAt w p L)) (hp : Hid (∀ a, p = some a -> a.block < w.heap.size)) :
 CB 115 #[.slice p L.length cap] (.tuple #[Byt.strV (Byt.lay L L 0 []).1, .int .i64 (Byt.lay L L 0 []).2.1, .int .i64 (Byt.lay L L 0 []).2.2]) w := by
 obtain ⟨R, hR⟩ := zn1 (Byt.lay L L 0 [])
 rw [<- hR]
 have HR : Hid (R = Byt.lay L (L.drop 0) 0 (⟨#[]⟩ : ByteArray).data.toList) := hR
 clear hR
 go_enter func115, ntmps115
 go_wp2
 go_loopw [5, 6] (fun v k6 wr => ∃ (k : Nat) (X : ByteArray), k <= L.length /\ X.size <= 4 * k /\ v = .string X /\ k6 = .int .i64 k /\ Hid (Below w.heap.size w wr) /\ Hid (R = Byt.lay L (L.drop k) k X.data.toList)) (fun _ k6 _ => L.length - (intOf k6).toNat)
 case atStart => exact ⟨0, ⟨#[]⟩, by omega, by decide, rfl, rfl, hide1 (Below.refl _ _), HR⟩
 case round =>
  obtain ⟨k, X, hk, hXs, rfl, rfl, hb, hh⟩ := hrel
  clear HR
  by_cases hlt : k < L.length
  . have hln := hide1 (hw.out.below hb.out hp.out)
    rcases hln.out with h0 | ⟨b, rfl, hcx⟩
    . exact zq354
    have hcx := hcx k hlt
    have hbl : b < wr.heap.size := Nat.lt_of_lt_of_le (hp.out _ rfl) hb.out.size
    have hz := hd.out L[k] (List.getElem_mem hlt)
    obtain ⟨z, hz', hz4⟩ : ∃ z : Nat, L[k].i.ln = z /\ z <= 4 := ⟨L[k].i.ln.toNat, by omega, by omega⟩
    obtain ⟨l, hl⟩ := zn1 (L[k])
    rw [<- hl] at hcx hz'
    have HL := hide1 hl
    clear hz hl
    obtain ⟨nm, i, tg⟩ := l
    have c0 := hcx.c0
    have c1 := hcx.c1
    have c2 := hcx.c2
    have c3 := hcx.c3
    have c4 := hcx.c4
    have c5 := hcx.c5
    have c6 := hcx.c6
    have c7 := hcx.c7
    simp only at c0 c1 c2 c3 c4 c5 c6 c7 hz'
    rw [hz'] at c6
    have HZ := hide1 hz'
    obtain ⟨NM, hNM⟩ := zn1 (⟨nm.toArray⟩ : ByteArray)
    obtain ⟨TG, hTG⟩ := zn1 (⟨tg.toArray⟩ : ByteArray)
    rw [<- hNM] at c0
    rw [<- hTG] at c7
    have hTl : TG.data.toList = tg := by rw [hTG]
    have q0 : (TG.toList == []) = decide (TG.data.toList = []) := eq_lit TG []
    rw [hTl] at q0
    have HTG := hide1 hTl
    clear hNM hTG hTl hz' hcx
    by_cases htg : tg = []
    . rw [decide_eq_true htg] at q0
      have hstep : Hid (R = if (Byt.wordD i).2 = 0 then Byt.lay L (L.drop (k + 1)) (k + 1) (X.data.toList ++ Byt.leB (Byt.wordD i).1 i.ln.toNat) else ([], (Byt.wordD i).2, k + 1)) := by
       show R = _
       rw [hh.out, lay_yes hlt (by rw [<- HL.out]; exact fun h => h.1 htg) i (by unfold Byt.aimed; rw [<- HL.out, if_pos htg]), <- HL.out]
      clear hh htg
      obtain ⟨V, hV⟩ := zn1 (Byt.wordD ⟨i.op, i.rd, i.rs1, i.rs2, i.im, z⟩)
      have hgo : Hid (R = if V.2 = 0 then Byt.lay L (L.drop (k + 1)) (k + 1) (X.data.toList ++ Byt.leB V.1 z) else ([], V.2, k + 1)) := by
       show R = _
       have h := hstep.out
       have hI : i = ⟨i.op, i.rd, i.rs1, i.rs2, i.im, z⟩ := by rw [<- HZ.out]
       rw [hI, <- hV] at h
       first | exact h | (rw [HZ.out] at h; exact h)
      have hnb := Bx.new wr NM ⟨i.op, i.rd, i.rs1, i.rs2, i.im, z⟩ TG
      have hww : Below w.heap.size w (wr.alloc (lnC NM ⟨i.op, i.rd, i.rs1, i.rs2, i.im, z⟩ TG)) := hb.out.alloc hb.out.size _
      have hwo := a_wordOf ⟨i.op, i.rd, i.rs1, i.rs2, i.im, z⟩ (wr.alloc (lnC NM ⟨i.op, i.rd, i.rs1, i.rs2, i.im, z⟩ TG))
      rw [<- hV] at hwo
      have HWO := hide1 (hwo.mono fun e w1 h => (⟨h.1, hide1 (hww.trans (h.2.mono hww.size)), (hnb.more h.2 hnb.lt).c6⟩ : _ /\ Hid (Below w.heap.size w w1) /\ w1.cell? ⟨wr.heap.size, 6, none⟩ = some (.int .i64 z)))
      unfold insV lnC at HWO
      clear hwo hww hnb hV hstep
      go_wp2_with fail
      exact zq366
    . rw [decide_eq_false htg] at q0
      have hww : Below w.heap.size w (wr.alloc (lnC NM ⟨i.op, i.rd, i.rs1, i.rs2, i.im, z⟩ TG)) := hb.out.alloc hb.out.size _
      have hfn := a_findName (some ⟨b, 0, none⟩) cap L hL TG _ (hide1 (hw.out.below hww hp.out))
      have hpl := fun n hn => a_placeOf (some ⟨b, 0, none⟩) cap L hL hd n hn _ (hide1 (hw.out.below hww hp.out))
      rw [HTG.out] at hfn
      obtain ⟨F, hF⟩ := zn1 (Byt.findN L tg)
      have hFl : F <= L.length := by rw [hF]; exact Byt.findN_le L tg
      rw [<- hF] at hfn
      have HF := hide1 hF
      have HFN := hide1 hfn
      have hpl' := hpl F (by omega)
      have hPb := place_bd L F hd.out
      obtain ⟨P, hP⟩ := zn1 (Byt.place L F)
      rw [<- hP] at hpl' hPb
      have HP := hide1 hP
      have HPL := hide1 hpl'
      unfold lnC at HFN HPL
      clear hfn hpl hpl' hww hF hP
      by_cases hfe : F = L.length
      . have hno : Hid (R = ([], 8, k + 1)) := by
         show R = _
         rw [hh.out]
         exact lay_no hlt (by rw [<- HL.out]; exact htg) (by rw [<- HL.out]; show Byt.findN L tg = L.length; rw [<- HF.out]; exact hfe)
        have e1 : ((F : Int) == (L.length : Int)) = true := by simp; omega
        have e2 : (F == L.length) = true := by simp; omega
        clear hh htg hfe
        go_wp2_with (go_at_call 153; refine HFN.out.mono ?_; rintro e w1 ⟨rfl, rfl⟩)
        go_ret3
        exact ⟨by rw [hno.out]; rfl, hb.out.alloc hb.out.size _⟩
      . have hstep : Hid (R = if (Byt.wordD ⟨i.op, i.rd, i.rs1, i.rs2, P - X.size, i.ln⟩).2 = 0 then Byt.lay L (L.drop (k + 1)) (k + 1) (X.data.toList ++ Byt.leB (Byt.wordD ⟨i.op, i.rd, i.rs1, i.rs2, P - X.size, i.ln⟩).1 i.ln.toNat) else ([], (Byt.wordD ⟨i.op, i.rd, i.rs1, i.rs2, P - X.size, i.ln⟩).2, k + 1)) := by
         show R = _
         rw [hh.out, lay_yes hlt (by rw [<- HL.out]; intro h; exact hfe (by rw [HF.out]; exact h.2)) ⟨i.op, i.rd, i.rs1, i.rs2, P - X.size, i.ln⟩ (by
          unfold Byt.aimed
          rw [<- HL.out, if_neg htg]
          show ({ i with im := Byt.place L (Byt.findN L tg) - _ } : Ins) = _
          rw [<- HF.out, <- HP.out, Array.length_toList]; rfl), <- HL.out]
        have e1 : ((F : Int) == (L.length : Int)) = false := by simp; omega
        have e2 : (F == L.length) = false := by simp; omega
        clear hh htg hfe
        obtain ⟨V, hV⟩ := zn1 (Byt.wordD ⟨i.op, i.rd, i.rs1, i.rs2, P - X.size, z⟩)
        have hgo : Hid (R = if V.2 = 0 then Byt.lay L (L.drop (k + 1)) (k + 1) (X.data.toList ++ Byt.leB V.1 z) else ([], V.2, k + 1)) := by
         show R = _
         have h := hstep.out
         have hI : (⟨i.op, i.rd, i.rs1, i.rs2, P - X.size, i.ln⟩ : Ins) = ⟨i.op, i.rd, i.rs1, i.rs2, P - X.size, z⟩ := by rw [<- HZ.out]
         rw [hI, <- hV] at h
         first | exact h | (rw [HZ.out] at h; exact h)
        have hnb := Bx.new wr NM ⟨i.op, i.rd, i.rs1, i.rs2, P - X.size, z⟩ TG
        have hww : Below w.heap.size w (wr.alloc (lnC NM ⟨i.op, i.rd, i.rs1, i.rs2, P - X.size, z⟩ TG)) := hb.out.alloc hb.out.size _
        have hwo := a_wordOf ⟨i.op, i.rd, i.rs1, i.rs2, P - X.size, z⟩ (wr.alloc (lnC NM ⟨i.op, i.rd, i.rs1, i.rs2, P - X.size, z⟩ TG))
        rw [<- hV] at hwo
        have HWO := hide1 (hwo.mono fun e w1 h => (⟨h.1, hide1 (hww.trans (h.2.mono hww.size)), (hnb.more h.2 hnb.lt).c6⟩ : _ /\ Hid (Below w.heap.size w w1) /\ w1.cell? ⟨wr.heap.size, 6, none⟩ = some (.int .i64 z)))
        unfold insV lnC at HWO
        clear hwo hww hnb hV hstep
        go_upto_region 7 with fail
        go_wp2_with (first | (go_at_call 153; refine HFN.out.mono ?_; rintro e w1 ⟨rfl, rfl⟩) | (go_at_call 154; refine HPL.out.mono ?_; rintro e w1 ⟨rfl, rfl⟩) | (go_at_call 155; fail))
        exact zq366
  . have hT : Hid (R = (X.data.toList, 0, 0)) := by
     show R = _
     rw [hh.out, List.drop_eq_nil_of_le (by omega)]; rfl
    have hlt' : decide ((k : Int) < (L.length : Int)) = false := by simp; omega
    clear hh
    go_wp2
    go_ret3
    exact ⟨by rw [hT.out]; unfold Byt.strV; simp only [mk_list]; rfl, hb.out⟩
theorem opd_ln {i j : Ins} {g h : List UInt8} {c : Nat} {T : List (List UInt8)} (e : Byt.opdP i g c T = some (j, h)) : j.ln = i.ln /\ j.op = i.op := by
 unfold Byt.opdP at e
 split at e
 . cases hr : Byt.opdR i c (T[0]?.getD []) with
   | none => rw [hr] at e; simp at e
   | some x =>
    rw [hr] at e
    simp only [Option.map_some, Option.some.injEq, Prod.mk.injEq] at e
    rw [<- e.1]
    unfold Byt.opdR at hr
    split at hr
    . simp at hr
    . simp only [Option.some.injEq] at hr
      rw [<- hr]
      split
      . exact ⟨rfl, rfl⟩
      . split <;> exact ⟨rfl, rfl⟩
 . split at e
   . cases hr : Byt.opdM i (T[0]?.getD []) (T[1]?.getD []) (T[2]?.getD []) (T[3]?.getD []) with
     | none => rw [hr] at e; simp at e
     | some x =>
      rw [hr] at e
      simp only [Option.map_some, Option.some.injEq, Prod.mk.injEq] at e
      rw [<- e.1]
      unfold Byt.opdM at hr
      split at hr
      . split at hr
        . simp at hr
        . simp only [Option.some.injEq] at hr
          rw [<- hr]; exact ⟨rfl, rfl⟩
      . simp at hr
   . split at e
     . simp only [Option.some.injEq, Prod.mk.injEq] at e
       rw [<- e.1]; exact ⟨rfl, rfl⟩
     . cases hr : Byt.opdN i c (T[0]?.getD []) with
       | none => rw [hr] at e; simp at e
       | some x =>
        rw [hr] at e
        simp only [Option.map_some, Option.some.injEq, Prod.mk.injEq] at e
        rw [<- e.1]
        unfold Byt.opdN at hr
        split at hr
        . simp only [Option.some.injEq] at hr
          rw [<- hr]
          split <;> exact ⟨rfl, rfl⟩
        . simp at hr
theorem ops_ln : ∀ (cs : List Nat) (m : Bool) (i : Ins) (g : List UInt8) (T : List (List UInt8)) (j : Ins) (h : List UInt8), Byt.opsP cs m i g T = some (j, h) -> j.ln = i.ln /\ j.op = i.op
 | [], m, i, g, T, j, h, e => by
  simp only [Byt.opsP] at e
  split at e
  . simp only [Option.some.injEq, Prod.mk.injEq] at e; rw [<- e.1]; exact ⟨rfl, rfl⟩
  . simp at e
 | c :: cs, m, i, g, T, j, h, e => by
  simp only [Byt.opsP] at e
  split at e
  . simp at e
  . split at e
    . simp at e
    . next x y he =>
      have h1 := opd_ln he
      have h2 := ops_ln cs true x y _ j h e
      exact ⟨h2.1.trans h1.1, h2.2.trans h1.2⟩
theorem wrdFrom_sz (t : List UInt8) : ∀ f op, (Byt.wrdFrom t f op).2 = 0 \/ (Byt.wrdFrom t f op).2 = 2 \/ (Byt.wrdFrom t f op).2 = 4
 | 0, op => .inl rfl
 | f + 1, op => by
  have ih := wrdFrom_sz t f (op + 1)
  unfold Byt.wrdFrom
  split
  . right; right; rfl
  . split
    . right; left; rfl
    . exact ih
theorem wrd_sz (t : List UInt8) : (Byt.wrd t).2 = 0 \/ (Byt.wrd t).2 = 2 \/ (Byt.wrd t).2 = 4 := by
 unfold Byt.wrd
 split
 . right; right; rfl
 . split
   . right; left; rfl
   . exact wrdFrom_sz t 70 1
theorem readR_tidy (nm : List UInt8) (T : List (List UInt8)) : (Byt.readR nm T).2.i.ln = 0 \/ (Byt.readR nm T).2.i.ln = 2 \/ (Byt.readR nm T).2.i.ln = 4 := by
 cases T with
 | nil => left; rfl
 | cons t LT =>
  by_cases hz : (Byt.wrd t).2 = 0
  . rw [readR_no nm t LT hz]; left; rfl
  . cases ho : Byt.opsP (Byt.shp (Byt.wrd t).1) false ⟨(Byt.wrd t).1, 0, 0, 0, 0, (Byt.wrd t).2⟩ [] LT with
    | none => rw [readR_bad nm t LT hz ho]; left; rfl
    | some r =>
     obtain ⟨i, g⟩ := r
     rw [readR_yes nm t LT hz ho]
     have h1 := (ops_ln _ _ _ _ _ _ _ ho).1
     have h2 := wrd_sz t
     simp only at h1 |-
     omega
theorem readLn_tidy (T : List (List UInt8)) (E : List Ln) : (Byt.readLn T E).2.i.ln = 0 \/ (Byt.readLn T E).2.i.ln = 2 \/ (Byt.readLn T E).2.i.ln = 4 := by
 unfold Byt.readLn
 split
 . split
   . split
     . left; rfl
     . exact readR_tidy _ _
   . left; rfl
 . exact readR_tidy _ _
theorem readAll_tidy : ∀ (ts : List (List UInt8)) (E : List Ln), Tidy E -> Tidy (Byt.readAll E ts).1
 | [], E, h => h
 | t :: ts, E, h => by
  simp only [Byt.readAll]
  split
  . refine readAll_tidy ts _ (fun l hl => ?_)
    rcases List.mem_append.1 hl with hl | hl
    . exact h l hl
    . rw [List.mem_singleton] at hl; rw [hl]; exact readLn_tidy _ _
  . intro l hl; simp at hl
theorem a_Assemble (s : ByteArray) (w : World) :
 CB 67 #[.string s] (.tuple #[Byt.strV (Byt.asmD s.data.toList).1, .int .i64 (Byt.asmD s.data.toList).2.1, .int .i64 (Byt.asmD s.data.toList).2.2]) w := by
 obtain ⟨R, hR⟩ := zn1 (Byt.asmD s.data.toList)
 rw [<- hR]
 unfold Byt.asmD at hR
 rw [show s.data.toList.length = s.size by rw [Array.length_toList]; rfl] at hR
 by_cases h1 : 4096 < s.size
 . rw [if_pos h1] at hR
   have h1' : decide (4096 < (s.size : Int)) = true := by simp; omega
   have HR := hide1 hR
   clear hR
   go_enter func67, ntmps67
   go_wp2
   go_ret3
   exact ⟨by rw [HR.out]; rfl, Below.refl _ _⟩
 rw [if_neg h1] at hR
 have h1' : decide (4096 < (s.size : Int)) = false := by simp; omega
 have hcl := a_countLines s (by omega) w
 obtain ⟨C, hC⟩ := zn1 (1 + Byt.nls s.data.toList)
 rw [<- hC] at hcl hR
 have HCL := hide1 hcl
 clear hcl hC
 by_cases h2 : 256 < C
 . rw [if_pos h2] at hR
   have h2' : decide (256 < (C : Int)) = true := by simp; omega
   have HR := hide1 hR
   clear hR
   go_enter func67, ntmps67
   go_wp2_with (go_at_call 113; refine HCL.out.mono ?_; rintro e w1 ⟨rfl, rfl⟩)
   go_ret3
   exact ⟨by rw [HR.out]; rfl, Below.refl _ _⟩
 rw [if_neg h2] at hR
 have h2' : decide (256 < (C : Int)) = false := by simp; omega
 have hrl := a_readLines s (by omega) w
 have htd := readAll_tidy (Byt.segs [] s.data.toList) [] (fun l hl => by simp at hl)
 obtain ⟨Q, hQ⟩ := zn1 (Byt.readAll [] (Byt.segs [] s.data.toList))
 rw [<- hQ] at hrl hR htd
 have HRL := hide1 hrl
 have HTD := hide1 htd
 clear hrl hQ htd
 obtain ⟨L, er, bad⟩ := Q
 by_cases h3 : er = 0
 . have h3' : (er != 0) = false := by simp [h3]
   have HR : Hid (R = Byt.lay L L 0 []) := by
    show R = _
    rw [hR]; simp only; rw [if_pos h3]
   have H3 := hide1 h3
   clear hR
   go_enter func67, ntmps67
   go_wp2_with fail
   refine HCL.out.mono ?_
   rintro e w1 ⟨rfl, rfl⟩
   go_wp2_with fail
   refine HRL.out.mono ?_
   rintro e w1 ⟨⟨v, rfl, hv⟩, hb⟩
   obtain ⟨p, cap, rfl, hL, hp, hln⟩ := hv H3.out
   have hlay := a_layLines p cap L hL (hide1 HTD.out) w1 (hide1 hln) (hide1 hp)
   rw [<- HR.out] at hlay
   have HLAY := hide1 hlay
   obtain ⟨X, hX⟩ := zn1 (Byt.strV R.1)
   rw [<- hX] at HLAY
   have HX := hide1 hX
   clear hlay hv hX
   go_wp2_with fail
   refine HLAY.out.mono ?_
   rintro e w2 ⟨rfl, hb2⟩
   go_wp2
   go_ret3
   exact ⟨by rw [<- HX.out]; rfl, hb.trans (hb2.mono hb.size)⟩
 . have h3' : (er != 0) = true := by simp [h3]
   have HR : Hid (R = ([], er, bad)) := by
    show R = _
    rw [hR]; simp only; rw [if_neg h3]
   clear hR
   go_enter func67, ntmps67
   go_wp2_with fail
   refine HCL.out.mono ?_
   rintro e w1 ⟨rfl, rfl⟩
   go_wp2_with fail
   refine HRL.out.mono ?_
   rintro e w1 ⟨⟨v, rfl, hv⟩, hb⟩
   clear hv
   go_wp2
   go_ret3
   exact ⟨by rw [HR.out]; rfl, hb⟩
section
attribute [local go_sem ↓] Go.wp_at_zero Go.wp_at_succ
theorem a_Asm' (s : ByteArray) (w : World) : Calls prog 67 #[.string s] w fun e w' => (∃ (X : ByteArray) (er n : Int), e = .returned (.tuple #[.string X, .int .i64 er, .int .i64 n])) /\ Kept [] w w' :=
 (a_Assemble s w).mono (fun e w' h => ⟨⟨_, _, _, h.1⟩, Below.kept h.2 []⟩)
theorem u_Le4' (v : Int) (w : World) : Calls prog 89 #[.int .i64 v, .int .i64 4] w fun e w' => (∃ B : ByteArray, B.size = 4 /\ e = .returned (.string B)) /\ Kept [] w w' :=
 (v_Le4 v w).mono (fun e w' h => ⟨⟨_, leA_size v 4, h.1⟩, Below.kept h.2 []⟩)
def MadeR (w0 w' : World) (z : Nat) (e : Ending) : Prop := (e = .returned (.pointer none) \/ ∃ mb rb, w0.heap.size <= mb /\ w0.heap.size <= rb /\ e = .returned (.pointer (some ⟨mb, 0, none⟩)) /\ Mz w' mb rb z) /\ Kept [] w0 w'
theorem kept_new {w0 w w' : World} {mb rb : Nat} (h0 : Kept [] w0 w) (hk : Kept [mb, rb] w w') (h1 : w0.heap.size <= mb) (h2 : w0.heap.size <= rb) : Kept [] w0 w' :=
 ⟨hk.os.trans h0.os, hk.tape.trans h0.tape, hk.output.trans h0.output, Nat.le_trans h0.size hk.size, fun k q _ => (hk.block k (Nat.lt_of_lt_of_le q h0.size) (by simp; omega)).trans (h0.block k q (by simp))⟩
set_option maxRecDepth 100000 in
theorem k_built (s : ByteArray) (a b : Int) (w : World) : Calls prog 90 #[.string s, .int .i64 a, .int .i64 b] w fun e w' => MadeR w w' 4096 e := by
 have N := hide1 (m_New 4096 (by decide) w)
 go_enter func90, ntmps90
 go_wp2_with fail
 refine N.out.mono ?_
 rintro o w1 ⟨rfl, hm1, hk1⟩
 have M1 := hide1 hm1
 have K1 := hide1 hk1
 clear N hm1 hk1
 go_wp2_with fail
 refine (a_Asm' s _).mono ?_
 rintro o w2 ⟨⟨X, er, n, rfl⟩, hk2⟩
 have M2 := hide1 (M1.out.kept hk2)
 have K2 := hide1 (K1.out.trans hk2)
 clear hk2 M1 K1
 by_cases her : er = 0
 . have q : (er != 0) = false := by simp [her]
   have q' : (er == 0) = true := by simp [her]
   clear her
   have L1 := hide1 (m_Load _ _ _ 0 X w2 M2.out)
   go_wp2_with fail
   refine L1.out.mono ?_
   rintro o w3 ⟨⟨e, rfl⟩, hm3, hk3⟩
   have M3 := hide1 hm3
   have K3 := hide1 (kept_new K2.out hk3 (by omega) (by omega))
   clear L1 hm3 hk3 M2 K2
   go_wp2_with fail
   refine (u_Le4' a _).mono ?_
   rintro o w4 ⟨⟨A, hA, rfl⟩, hk4⟩
   have M4 := hide1 (M3.out.kept hk4)
   have K4 := hide1 (K3.out.trans hk4)
   clear hk4 M3 K3
   go_wp2_with fail
   refine (u_Le4' b _).mono ?_
   rintro o w5 ⟨⟨B, hB, rfl⟩, hk5⟩
   have M5 := hide1 (M4.out.kept hk5)
   have K5 := hide1 (K4.out.trans hk5)
   obtain ⟨c, hcg, hcz, hc⟩ := add_in A B (by omega)
   clear hk5 M4 K4 hA hB hcg hcz
   have L2 := hide1 (m_Load _ _ _ 1024 c w5 M5.out)
   go_wp2_with fail
   refine L2.out.mono ?_
   rintro o w6 ⟨⟨e, rfl⟩, hm6, hk6⟩
   have M6 := hide1 hm6
   have K6 := hide1 (kept_new K5.out hk6 (by omega) (by omega))
   clear L2 hm6 hk6 M5 K5
   go_wp2_with fail
   go_ret
   exact ⟨.inr ⟨_, _, by omega, by omega, rfl, M6.out⟩, K6.out⟩
 . exact zq367
structure LOp where
 k : Int
 a : Int
 b : Int
 c : Int
 s : ByteArray
def LOp.v (x : LOp) : Value := .agg #[.int .i64 x.k, .int .i64 x.a, .int .i64 x.b, .int .i64 x.c, .string x.s]
def LOp.o (x : LOp) : Obj := .cells #[.int .i64 x.k, .int .i64 x.a, .int .i64 x.b, .int .i64 x.c, .string x.s] 56
structure LOk (x : LOp) : Prop where
 a0 : -9223372036854775808 <= x.a
 a1 : x.a <= 9223372036854775807
 b0 : -9223372036854775808 <= x.b
 b1 : x.b <= 9223372036854775807
 c0 : -9223372036854775808 <= x.c
 c1 : x.c <= 9223372036854775807
 s1 : x.s.size <= 1125899906842624
def MPost (w : World) (mb rb z : Nat) (o : Ending) (w' : World) : Prop := BoolR o /\ Mz w' mb rb z /\ Kept [mb, rb] w w'
theorem kept_of {F : List Nat} {w w' : World} (h : Kept [] w w') : Kept F w w' := h.mono (by simp)
theorem kept_out {w0 w w' : World} {mb rb nb qb : Nat} (h0 : Kept [mb, rb] w0 w) (hk : Kept [nb, qb] w w') (h1 : w0.heap.size <= nb) (h2 : w0.heap.size <= qb) : Kept [mb, rb] w0 w' :=
 ⟨hk.os.trans h0.os, hk.tape.trans h0.tape, hk.output.trans h0.output, Nat.le_trans h0.size hk.size, fun k q hn => (hk.block k (Nat.lt_of_lt_of_le q h0.size) (by simp; omega)).trans (h0.block k q hn)⟩
set_option maxRecDepth 100000 in
theorem k_twin (mb rb z : Nat) (n : Int) (w : World) (hw : Hid (Mz w mb rb z)) : Calls prog 31 #[.pointer (some ⟨mb, 0, none⟩), .int .i64 n] w fun o w' => MPost w mb rb z o w' := by
 have l0 := hw.out.m.lt
 have C := hide1 (m_Copy mb rb z w hw.out)
 go_enter func31, ntmps31
 go_wp2_with fail
 refine C.out.mono ?_
 rintro o w1 ⟨rfl, hy1, hk1⟩
 have Y1 := hide1 hy1
 have M1 := hide1 (hw.out.kept hk1)
 have K1 := hide1 hk1
 have s1 := hk1.size
 clear C hy1 hk1
 go_wp2_with fail
 refine (m_Flush w.heap.size w1).mono ?_
 rintro o w1' ⟨rfl, rfl⟩
 go_wp2_with fail
 refine (m_Run mb rb z n w1' M1.out).mono ?_
 rintro o w2 ⟨⟨v, er, q0, q1, rfl⟩, hm, hk⟩
 have M2 := hide1 hm
 have Y2 := hide1 (Y1.out.more hk (by simp; omega) (by simp; omega))
 have K2 := hide1 ((kept_of K1.out).trans hk)
 clear hm hk M1 Y1 K1 q0 q1
 go_wp2_with fail
 refine (m_Run w.heap.size (w.heap.size + 1) z n w2 Y2.out).mono ?_
 rintro o w3 ⟨⟨v2, er2, q0, q1, rfl⟩, hm, hk⟩
 have Y3 := hide1 hm
 have M3 := hide1 (M2.out.more hk (by simp; omega) (by simp; omega))
 have K3 := hide1 (kept_out K2.out hk (by omega) (by omega))
 clear hm hk M2 Y2 K2 q0 q1
 go_wp2_with fail
 refine (m_Show mb rb w3 M3.out.m).mono ?_
 rintro o w4 ⟨⟨s, z0, z1, rfl⟩, hk⟩
 have M4 := hide1 (M3.out.kept hk)
 have Y4 := hide1 (Y3.out.kept hk)
 have K4 := hide1 (K3.out.trans (kept_of hk))
 clear hk M3 Y3 K3 z0 z1
 go_wp2_with fail
 refine (m_Show w.heap.size (w.heap.size + 1) w4 Y4.out.m).mono ?_
 rintro o w5 ⟨⟨t, z0, z1, rfl⟩, hk⟩
 have M5 := hide1 (M4.out.kept hk)
 have Y5 := hide1 (Y4.out.kept hk)
 have K5 := hide1 (K4.out.trans (kept_of hk))
 clear hk M4 Y4 K4 z0 z1
 go_wp2_with fail
 refine (k_ram mb rb z w5 M5).mono ?_
 rintro o w6 ⟨⟨r, zr, rfl⟩, rfl⟩
 clear zr
 go_wp2_with fail
 refine (k_ram w.heap.size (w.heap.size + 1) z w6 Y5).mono ?_
 rintro o w7 ⟨⟨r2, zr, rfl⟩, rfl⟩
 exact zq368
set_option maxRecDepth 100000 in
theorem k_reset (mb rb z : Nat) (w : World) (hw : Hid (Mz w mb rb z)) : Calls prog 71 #[.pointer (some ⟨mb, 0, none⟩)] w fun o w' => MPost w mb rb z o w' := by
 have l0 := hw.out.m.lt
 have hz := hw.out.le
 go_enter func71, ntmps71
 go_wp2_with fail
 refine (k_ram mb rb z w hw).mono ?_
 rintro o w1 ⟨⟨r, zr, rfl⟩, rfl⟩
 clear zr
 go_wp2_with fail
 refine (m_Size mb rb z w1 hw.out).mono ?_
 rintro o w1 ⟨rfl, rfl⟩
 go_wp2_with fail
 refine (m_Reset mb rb z w1 hw.out).mono ?_
 rintro o w2 ⟨rfl, hm, hk⟩
 have M2 := hide1 hm
 have K2 := hide1 hk
 have s2 := hk.size
 clear hm hk
 go_wp2_with fail
 refine (m_New z hz w2).mono ?_
 rintro o w3 ⟨rfl, hy, hk⟩
 have Y3 := hide1 hy
 have M3 := hide1 (M2.out.kept hk)
 have K3 := hide1 (K2.out.trans (kept_of hk))
 clear hy hk M2 K2
 go_wp2_with fail
 refine (m_Show mb rb w3 M3.out.m).mono ?_
 rintro o w4 ⟨⟨s, z0, z1, rfl⟩, hk⟩
 have M4 := hide1 (M3.out.kept hk)
 have Y4 := hide1 (Y3.out.kept hk)
 have K4 := hide1 (K3.out.trans (kept_of hk))
 clear hk M3 Y3 K3 z0 z1
 go_wp2_with fail
 refine (m_Show _ _ w4 Y4.out.m).mono ?_
 rintro o w5 ⟨⟨t, z0, z1, rfl⟩, hk⟩
 have M5 := hide1 (M4.out.kept hk)
 have K5 := hide1 (K4.out.trans (kept_of hk))
 clear hk M4 Y4 K4 z0 z1
 go_wp2_with fail
 refine (k_ram mb rb z w5 M5).mono ?_
 rintro o w6 ⟨⟨r2, zr, rfl⟩, rfl⟩
 exact zq368
theorem box_not {w : World} {mb rb z : Nat} (h : Mz w mb rb z) : ¬ w.heap.size ∈ [mb, rb] := by have := h.m.lt; simp; omega
set_option maxRecDepth 100000 in
theorem k_plain2 (mb rb z : Nat) (a b c : Int) (s : ByteArray) (w : World) (hw : Hid (Mz w mb rb z)) : Calls prog 33 #[.pointer (some ⟨mb, 0, none⟩), .agg #[.int .i64 2, .int .i64 a, .int .i64 b, .int .i64 c, .string s]] w fun o w' => MPost w mb rb z o w' := by
 have k0 : Kept [] w (w.alloc (.cells #[.int .i64 2, .int .i64 a, .int .i64 b, .int .i64 c, .string s] 36)) := zq136
 have hn := box_not hw.out
 have M0 := hide1 (hw.out.kept k0)
 have K0 : Hid (Kept [mb, rb] w (w.alloc (.cells #[.int .i64 2, .int .i64 a, .int .i64 b, .int .i64 c, .string s] 36))) := zq138
 have ob0 := BoxF.new w [.int .i64 2, .int .i64 a, .int .i64 b, .int .i64 c, .string s] 36
 clear k0 hw
 go_enter func33, ntmps33
 go_wp2_with fail
 refine (m_Load mb rb z b s _ M0.out).mono ?_
 exact zq369
set_option maxRecDepth 100000 in
theorem k_plain4 (mb rb z : Nat) (a b c : Int) (s : ByteArray) (w : World) (hw : Hid (Mz w mb rb z)) : Calls prog 33 #[.pointer (some ⟨mb, 0, none⟩), .agg #[.int .i64 4, .int .i64 a, .int .i64 b, .int .i64 c, .string s]] w fun o w' => MPost w mb rb z o w' := by
 have k0 : Kept [] w (w.alloc (.cells #[.int .i64 4, .int .i64 a, .int .i64 b, .int .i64 c, .string s] 36)) := zq136
 have hn := box_not hw.out
 have M0 := hide1 (hw.out.kept k0)
 have K0 : Hid (Kept [mb, rb] w (w.alloc (.cells #[.int .i64 4, .int .i64 a, .int .i64 b, .int .i64 c, .string s] 36))) := zq138
 have ob0 := BoxF.new w [.int .i64 4, .int .i64 a, .int .i64 b, .int .i64 c, .string s] 36
 clear k0 hw
 go_enter func33, ntmps33
 go_wp2_with fail
 refine (m_Run mb rb z b _ M0.out).mono ?_
 rintro o w1 ⟨⟨v, er, q0, q1, rfl⟩, hm, hk⟩
 exact zq370
set_option maxRecDepth 100000 in
theorem k_plain5 (mb rb z : Nat) (a b c : Int) (s : ByteArray) (w : World) (hw : Hid (Mz w mb rb z)) : Calls prog 33 #[.pointer (some ⟨mb, 0, none⟩), .agg #[.int .i64 5, .int .i64 a, .int .i64 b, .int .i64 c, .string s]] w fun o w' => MPost w mb rb z o w' := by
 have k0 : Kept [] w (w.alloc (.cells #[.int .i64 5, .int .i64 a, .int .i64 b, .int .i64 c, .string s] 36)) := zq136
 have hn := box_not hw.out
 have M0 := hide1 (hw.out.kept k0)
 have K0 : Hid (Kept [mb, rb] w (w.alloc (.cells #[.int .i64 5, .int .i64 a, .int .i64 b, .int .i64 c, .string s] 36))) := zq138
 have ob0 := BoxF.new w [.int .i64 5, .int .i64 a, .int .i64 b, .int .i64 c, .string s] 36
 clear k0 hw
 go_enter func33, ntmps33
 go_wp2_with fail
 refine (m_Tick mb rb z b _ M0.out).mono ?_
 exact zq369
set_option maxRecDepth 100000 in
theorem k_plain6 (mb rb z : Nat) (a b c : Int) (s : ByteArray) (w : World) (hw : Hid (Mz w mb rb z)) : Calls prog 33 #[.pointer (some ⟨mb, 0, none⟩), .agg #[.int .i64 6, .int .i64 a, .int .i64 b, .int .i64 c, .string s]] w fun o w' => MPost w mb rb z o w' := by
 have k0 : Kept [] w (w.alloc (.cells #[.int .i64 6, .int .i64 a, .int .i64 b, .int .i64 c, .string s] 36)) := zq136
 have hn := box_not hw.out
 have M0 := hide1 (hw.out.kept k0)
 have K0 : Hid (Kept [mb, rb] w (w.alloc (.cells #[.int .i64 6, .int .i64 a, .int .i64 b, .int .i64 c, .string s] 36))) := zq138
 have ob0 := BoxF.new w [.int .i64 6, .int .i64 a, .int .i64 b, .int .i64 c, .string s] 36
 clear k0 hw
 go_enter func33, ntmps33
 go_wp2_with fail
 refine (m_Feed mb rb z s _ M0.out).mono ?_
 rintro o w1 ⟨⟨v, er, q0, q1, q2, rfl⟩, hm, hk⟩
 have M1 := hide1 hm
 have K1 := hide1 (K0.out.trans hk)
 have ob1 := ob0.more hk hn
 have o4 := ob1.cell 4 _ rfl
 exact zq371
set_option maxRecDepth 100000 in
theorem k_plain8 (mb rb z : Nat) (a b c : Int) (s : ByteArray) (w : World) (hw : Hid (Mz w mb rb z)) : Calls prog 33 #[.pointer (some ⟨mb, 0, none⟩), .agg #[.int .i64 8, .int .i64 a, .int .i64 b, .int .i64 c, .string s]] w fun o w' => MPost w mb rb z o w' := by
 have k0 : Kept [] w (w.alloc (.cells #[.int .i64 8, .int .i64 a, .int .i64 b, .int .i64 c, .string s] 36)) := zq136
 have hn := box_not hw.out
 have M0 := hide1 (hw.out.kept k0)
 have K0 : Hid (Kept [mb, rb] w (w.alloc (.cells #[.int .i64 8, .int .i64 a, .int .i64 b, .int .i64 c, .string s] 36))) := zq138
 have ob0 := BoxF.new w [.int .i64 8, .int .i64 a, .int .i64 b, .int .i64 c, .string s] 36
 clear k0 hw
 go_enter func33, ntmps33
 go_wp2_with fail
 refine (k_reset mb rb z _ M0).mono ?_
 rintro o w1 ⟨⟨r, rfl⟩, hm, hk⟩
 exact zq370
set_option maxRecDepth 100000 in
theorem k_plain7 (mb rb z : Nat) (a b c : Int) (s : ByteArray) (w : World) (hw : Hid (Mz w mb rb z)) : Calls prog 33 #[.pointer (some ⟨mb, 0, none⟩), .agg #[.int .i64 7, .int .i64 a, .int .i64 b, .int .i64 c, .string s]] w fun o w' => MPost w mb rb z o w' := by
 have k0 : Kept [] w (w.alloc (.cells #[.int .i64 7, .int .i64 a, .int .i64 b, .int .i64 c, .string s] 36)) := zq136
 have hn := box_not hw.out
 have M0 := hide1 (hw.out.kept k0)
 have K0 : Hid (Kept [mb, rb] w (w.alloc (.cells #[.int .i64 7, .int .i64 a, .int .i64 b, .int .i64 c, .string s] 36))) := zq138
 have ob0 := BoxF.new w [.int .i64 7, .int .i64 a, .int .i64 b, .int .i64 c, .string s] 36
 clear k0 hw
 go_enter func33, ntmps33
 go_wp2_with fail
 refine (m_Drain mb rb z _ M0.out).mono ?_
 rintro o w1 ⟨⟨t, z0, rfl⟩, hm, hk⟩
 have M1 := hide1 hm
 have K1 := hide1 (K0.out.trans hk)
 clear hm hk M0 K0 z0
 go_wp2_with fail
 refine (m_Drain mb rb z _ M1.out).mono ?_
 rintro o w2 ⟨⟨t2, z0, rfl⟩, hm, hk⟩
 have M2 := hide1 hm
 have K2 := hide1 (K1.out.trans hk)
 clear hm hk M1 K1 z0
 exact zq372
set_option maxRecDepth 100000 in
theorem k_plain10 (mb rb z : Nat) (a b c : Int) (s : ByteArray) (w : World) (hw : Hid (Mz w mb rb z)) : Calls prog 33 #[.pointer (some ⟨mb, 0, none⟩), .agg #[.int .i64 10, .int .i64 a, .int .i64 b, .int .i64 c, .string s]] w fun o w' => MPost w mb rb z o w' := by
 have k0 : Kept [] w (w.alloc (.cells #[.int .i64 10, .int .i64 a, .int .i64 b, .int .i64 c, .string s] 36)) := zq136
 have hn := box_not hw.out
 have M0 := hide1 (hw.out.kept k0)
 have K0 : Hid (Kept [mb, rb] w (w.alloc (.cells #[.int .i64 10, .int .i64 a, .int .i64 b, .int .i64 c, .string s] 36))) := zq138
 have ob0 := BoxF.new w [.int .i64 10, .int .i64 a, .int .i64 b, .int .i64 c, .string s] 36
 clear k0 hw
 go_enter func33, ntmps33
 go_wp2_with fail
 refine (m_Show mb rb _ M0.out.m).mono ?_
 rintro o w1 ⟨⟨t, z0, z1, rfl⟩, hk⟩
 have M1 := hide1 (M0.out.kept hk)
 have K1 := hide1 (K0.out.trans (kept_of hk))
 clear hk M0 K0 z0 z1
 go_wp2_with fail
 refine (m_Flush mb w1).mono ?_
 rintro o w1' ⟨rfl, rfl⟩
 go_wp2_with fail
 refine (m_Show mb rb _ M1.out.m).mono ?_
 rintro o w2 ⟨⟨t2, z0, z1, rfl⟩, hk⟩
 have M2 := hide1 (M1.out.kept hk)
 have K2 := hide1 (K1.out.trans (kept_of hk))
 clear hk M1 K1 z0 z1
 exact zq372
set_option maxRecDepth 100000 in
theorem k_plain22 (mb rb z : Nat) (a b c : Int) (s : ByteArray) (w : World) (hw : Hid (Mz w mb rb z)) : Calls prog 33 #[.pointer (some ⟨mb, 0, none⟩), .agg #[.int .i64 22, .int .i64 a, .int .i64 b, .int .i64 c, .string s]] w fun o w' => MPost w mb rb z o w' := by
 have k0 : Kept [] w (w.alloc (.cells #[.int .i64 22, .int .i64 a, .int .i64 b, .int .i64 c, .string s] 36)) := zq136
 have hn := box_not hw.out
 have M0 := hide1 (hw.out.kept k0)
 have K0 : Hid (Kept [mb, rb] w (w.alloc (.cells #[.int .i64 22, .int .i64 a, .int .i64 b, .int .i64 c, .string s] 36))) := zq138
 have ob0 := BoxF.new w [.int .i64 22, .int .i64 a, .int .i64 b, .int .i64 c, .string s] 36
 clear k0 hw
 go_enter func33, ntmps33
 go_wp2_with fail
 refine (a_Asm' s _).mono ?_
 rintro o w1 ⟨⟨X, er, n, rfl⟩, hk⟩
 have M1 := hide1 (M0.out.kept hk)
 have K1 := hide1 (K0.out.trans (kept_of hk))
 have ob1 := ob0.kept hk
 have o2 := ob1.cell 2 _ rfl
 clear hk M0 K0
 by_cases her : er = 0
 . have q : (er == 0) = true := by simp [her]
   clear her
   go_wp2_with fail
   refine (m_Load mb rb z b X _ M1.out).mono ?_
   rintro o w2 ⟨⟨e, rfl⟩, hm, hk⟩
   have M2 := hide1 hm
   have K2 := hide1 (K1.out.trans hk)
   clear hm hk M1 K1
   exact zq372
 . have q : (er == 0) = false := by simp [her]
   clear her
   exact zq373
set_option maxRecDepth 100000 in
theorem k_plainN (mb rb z : Nat) (k a b c : Int) (s : ByteArray) (hk : ¬ (k = 2 \/ (4 <= k /\ k <= 8) \/ k = 10 \/ k = 22)) (w : World) (hw : Hid (Mz w mb rb z)) : Calls prog 33 #[.pointer (some ⟨mb, 0, none⟩), .agg #[.int .i64 k, .int .i64 a, .int .i64 b, .int .i64 c, .string s]] w fun o w' => MPost w mb rb z o w' := by
 have k0 : Kept [] w (w.alloc (.cells #[.int .i64 k, .int .i64 a, .int .i64 b, .int .i64 c, .string s] 36)) := zq136
 have M0 := hide1 (hw.out.kept k0)
 have K0 : Hid (Kept [mb, rb] w (w.alloc (.cells #[.int .i64 k, .int .i64 a, .int .i64 b, .int .i64 c, .string s] 36))) := zq138
 have q2 : (k == 2) = false := by simp; omega
 have q4 : (k == 4) = false := by simp; omega
 have q5 : (k == 5) = false := by simp; omega
 have q6 : (k == 6) = false := by simp; omega
 have q7 : (k == 7) = false := by simp; omega
 have q8 : (k == 8) = false := by simp; omega
 have q10 : (k == 10) = false := by simp; omega
 have q22 : (k == 22) = false := by simp; omega
 clear k0 hw hk
 go_enter func33, ntmps33
 go_wp2_with fail
 go_ret
 exact ⟨⟨_, rfl⟩, M0.out, K0.out⟩
theorem k_plain (mb rb z : Nat) (k a b c : Int) (s : ByteArray) (w : World) (hw : Hid (Mz w mb rb z)) : Calls prog 33 #[.pointer (some ⟨mb, 0, none⟩), .agg #[.int .i64 k, .int .i64 a, .int .i64 b, .int .i64 c, .string s]] w fun o w' => MPost w mb rb z o w' := by
 by_cases h : k = 2 \/ (4 <= k /\ k <= 8) \/ k = 10 \/ k = 22
 . have : k = 2 \/ k = 4 \/ k = 5 \/ k = 6 \/ k = 7 \/ k = 8 \/ k = 10 \/ k = 22 := by omega
   rcases this with rfl | rfl | rfl | rfl | rfl | rfl | rfl | rfl
   . exact k_plain2 mb rb z a b c s w hw
   . exact k_plain4 mb rb z a b c s w hw
   . exact k_plain5 mb rb z a b c s w hw
   . exact k_plain6 mb rb z a b c s w hw
   . exact k_plain7 mb rb z a b c s w hw
   . exact k_plain8 mb rb z a b c s w hw
   . exact k_plain10 mb rb z a b c s w hw
   . exact k_plain22 mb rb z a b c s w hw
 . exact k_plainN mb rb z k a b c s h w hw
def TPost (w : World) (mb rb z : Nat) (o : Ending) (w' : World) : Prop := o = .returned (.bool true) /\ Mz w' mb rb z /\ Kept [mb, rb] w w'
def ptrs (U : List Nat) : List Value := U.map fun b => .pointer (some ⟨b, 0, none⟩)
theorem own_kept {F : List Nat} {w w' : World} {B e size n : Nat} {v : Value} {xs : List Value} (h : w.ownsRow B e size v n xs) (hk : Kept F w w') (hn : ∀ k, v.ownBlock = some k -> k ∉ F) : w'.ownsRow B e size v n xs := by
 refine ⟨h.1, ?_⟩
 rcases h.2 with h' | ⟨g, cap, cur, hv, hB, hg, h1, h2, h3, h4⟩
 . exact .inl h'
 . exact .inr ⟨g, cap, cur, hv, hB, by rw [hk.block g (Array.getElem?_eq_some_iff.1 hg).1 (hn g (by rw [hv]; rfl))]; exact hg, h1, h2, h3, h4⟩
theorem grown_kept {w w' : World} {r : Option Nat} (h : w.grownBy w' r) : Kept r.toList w w' := ⟨h.os, h.tape, h.output, h.size, fun k hk hn => h.block k hk (fun e => hn (by rw [<- e]; simp))⟩
theorem own_new {v v' : Value} {g n c H : Nat} (hv : v' = .slice (some ⟨g, 0, none⟩) n c) (hat : v.ownBlock = some g \/ g = H) (k : Nat) (hk : v'.ownBlock = some k) : v.ownBlock = some k \/ k = H := by
 rw [hv] at hk
 simp only [Value.ownBlock, Option.some.injEq] at hk
 rw [<- hk]; exact hat
structure Kp1 where
 mb : Nat
 rb : Nat
 z : Nat
structure Kw (w : World) (wb : Nat) (P : List Kp1) (u : Value) : Prop where
 c0 : w.cell? ⟨wb, 0, none⟩ = some u
 fro : ∀ o, w.frozen? ⟨wb, o, none⟩ = false
 lt : wb < w.heap.size
 ox : w.ownsRow (wb + 1) 39 1 u P.length (ptrs (P.map Kp1.mb))
 pr : ∀ a (h : a < P.length), Mz w P[a].mb P[a].rb P[a].z
 ge : ∀ a (h : a < P.length), wb < P[a].mb /\ wb < P[a].rb
 su : ∀ a (h : a < P.length), u.ownBlock ≠ some P[a].mb /\ u.ownBlock ≠ some P[a].rb
 dj : ∀ a b (ha : a < P.length) (hb : b < P.length), a ≠ b -> P[a].mb ≠ P[b].mb /\ P[a].mb ≠ P[b].rb /\ P[a].rb ≠ P[b].mb /\ P[a].rb ≠ P[b].rb
theorem Kw.keep {w w' : World} {wb : Nat} {P : List Kp1} {u : Value} (h : Kw w wb P u) (hk : Kept [] w w') : Kw w' wb P u :=
 ⟨(hk.cell (p := ⟨wb, 0, none⟩) h.lt (by simp)).trans h.c0, fun o => (hk.frozen (p := ⟨wb, o, none⟩) h.lt (by simp)).trans (h.fro o), Nat.lt_of_lt_of_le h.lt hk.size, own_kept h.ox hk (by simp), fun a ha => (h.pr a ha).kept hk, h.ge, h.su, h.dj⟩
theorem Kw.act {w w' : World} {wb : Nat} {P : List Kp1} {u : Value} (h : Kw w wb P u) (j : Nat) (hj : j < P.length) (hm : Mz w' P[j].mb P[j].rb P[j].z) (hk : Kept [P[j].mb, P[j].rb] w w') : Kw w' wb P u := by
 have g := h.ge j hj
 have n0 : wb ∉ [P[j].mb, P[j].rb] := by simp; omega
 have nu : ∀ k, u.ownBlock = some k -> k ∉ [P[j].mb, P[j].rb] := fun k hk q => by
  simp at q
  rcases q with e | e
  . exact (h.su j hj).1 (by rw [hk, e])
  . exact (h.su j hj).2 (by rw [hk, e])
 refine ⟨(hk.cell (p := ⟨wb, 0, none⟩) h.lt n0).trans h.c0, fun o => (hk.frozen (p := ⟨wb, o, none⟩) h.lt n0).trans (h.fro o), Nat.lt_of_lt_of_le h.lt hk.size, own_kept h.ox hk nu, fun a ha => ?_, h.ge, h.su, h.dj⟩
 by_cases e : a = j
 . subst e; exact hm
 . have d := h.dj a j ha hj e
   exact (h.pr a ha).more hk (by simp; exact ⟨d.1, d.2.1⟩) (by simp; exact ⟨d.2.2.1, d.2.2.2⟩)
theorem Kw.push {w w' : World} {wb : Nat} {P : List Kp1} {u : Value} (h : Kw w wb P u) (p : Kp1) (hp : Mz w p.mb p.rb p.z) (N : Nat) (hN : N <= p.mb /\ N <= p.rb) (h0 : wb < N) (hu : ∀ k, u.ownBlock = some k -> k < N) (hP : ∀ a (h : a < P.length), P[a].mb < N /\ P[a].rb < N) (g cap : Nat) (hg : w.grownBy w' u.ownBlock) (ho : w'.ownsRow (wb + 1) 39 1 (.slice (some ⟨g, 0, none⟩) (P.length + 1) cap) (P.length + 1) (ptrs (P.map Kp1.mb) ++ [.pointer (some ⟨p.mb, 0, none⟩)])) (hat : u.ownBlock = some g \/ g = w.heap.size) :
 Kw (w'.setCell ⟨wb, 0, none⟩ (.slice (some ⟨g, 0, none⟩) (P.length + 1) cap)) wb (P ++ [p]) (.slice (some ⟨g, 0, none⟩) (P.length + 1) cap) := by
 have hk := grown_kept hg
 have n0 : wb ∉ u.ownBlock.toList := fun q => by have := (h.ox.lt wb (by simpa using q)).1; omega
 have hs := hk.size
 have hl := h.lt
 have ks : Kept [wb] w' (w'.setCell ⟨wb, 0, none⟩ (.slice (some ⟨g, 0, none⟩) (P.length + 1) cap)) := (Kept.refl _ _).setCell (.inl (by simp)) _
 have hg1 : wb + 1 <= g := (ho.lt g rfl).1
 have lp := hp.m.lt
 have on := fun k (hk : (Value.slice (some ⟨g, 0, none⟩) (P.length + 1) cap).ownBlock = some k) => own_new (v := u) rfl hat k hk
 have mz : ∀ mb rb z, Mz w mb rb z -> (wb < mb /\ wb < rb) -> (u.ownBlock ≠ some mb /\ u.ownBlock ≠ some rb) -> Mz (w'.setCell ⟨wb, 0, none⟩ (.slice (some ⟨g, 0, none⟩) (P.length + 1) cap)) mb rb z := fun mb rb z hm h1 h2 =>
  (hm.more hk (fun q => h2.1 (by simpa using q)) (fun q => h2.2 (by simpa using q))).more ks (by simp; omega) (by simp; omega)
 have pu : u.ownBlock ≠ some p.mb /\ u.ownBlock ≠ some p.rb := ⟨fun e => by have := hu _ e; omega, fun e => by have := hu _ e; omega⟩
 refine ⟨World.cell?_setCell_same _ _ _ ((hk.cell (p := ⟨wb, 0, none⟩) hl n0).trans h.c0), fun o => by rw [World.frozen?_setCell]; exact (hk.frozen (p := ⟨wb, o, none⟩) hl n0).trans (h.fro o), Nat.lt_of_lt_of_le (Nat.lt_of_lt_of_le hl hs) ks.size, ?_, ?_, ?_, ?_, ?_⟩
 . have := own_kept ho ks (fun k hk q => by simp only [Value.ownBlock, Option.some.injEq] at hk; simp at q; omega)
   simpa [ptrs] using this
 . intro a ha
   rw [List.getElem_append]
   split
   . next q => exact mz _ _ _ (h.pr a q) (h.ge a q) (h.su a q)
   . simp only [List.getElem_singleton]; exact mz _ _ _ hp ⟨by omega, by omega⟩ pu
 . intro a ha
   rw [List.getElem_append]
   split
   . next q => exact h.ge a q
   . simp only [List.getElem_singleton]; omega
 . intro a ha
   rw [List.getElem_append]
   split
   . next q =>
     have l := (h.pr a q).m.lt
     have s := h.su a q
     exact ⟨fun e => by rcases on _ e with r | r; exact s.1 r; omega, fun e => by rcases on _ e with r | r; exact s.2 r; omega⟩
   . simp only [List.getElem_singleton]
     exact ⟨fun e => by rcases on _ e with r | r; exact pu.1 r; omega, fun e => by rcases on _ e with r | r; exact pu.2 r; omega⟩
 . intro a b ha hb hab
   rw [List.getElem_append, List.getElem_append]
   split
   . next q =>
     split
     . next q2 => exact h.dj a b q q2 hab
     . simp only [List.getElem_singleton]
       have := hP a q
       omega
   . next q =>
     split
     . next q2 =>
       simp only [List.getElem_singleton]
       have := hP b q2
       omega
     . next q2 => simp at ha hb; omega
theorem kept_below {F : List Nat} {w w' : World} {wb : Nat} (h : Kept F w w') (hF : ∀ k ∈ F, wb <= k) (hl : wb <= w.heap.size) : Below wb w w' :=
 ⟨h.os, h.tape, h.output, h.size, fun k hk => h.block k (by omega) (fun q => by have := hF k q; omega)⟩
theorem info_xm : (prog.info? 39).map (fun i => (i.zero, i.size, i.bytes)) = some (some (.pointer none), 1, 8) := by kernel_rfl
def KwH (w : World) (wb n : Nat) : Prop := ∃ P u, Kw w wb P u /\ P.length <= n
theorem KwH.keep {w w' : World} {wb n : Nat} (h : KwH w wb n) (hk : Kept [] w w') : KwH w' wb n := by
 obtain ⟨P, u, a, b⟩ := h; exact ⟨P, u, a.keep hk, b⟩
theorem KwH.mono {w : World} {wb n m : Nat} (h : KwH w wb n) (hn : n <= m) : KwH w wb m := by
 obtain ⟨P, u, a, b⟩ := h; exact ⟨P, u, a, by omega⟩
theorem KwH.lt {w : World} {wb n : Nat} (h : KwH w wb n) : wb < w.heap.size := by
 obtain ⟨P, u, a, b⟩ := h; exact a.lt
theorem app_k {w : World} {wb : Nat} {P : List Kp1} {u : Value} (h : Kw w wb P u) (p : Kp1) (hp : Mz w p.mb p.rb p.z) (N : Nat) (hN : N <= p.mb /\ N <= p.rb) (h0 : wb < N) (hu : ∀ k, u.ownBlock = some k -> k < N) (hP : ∀ a (h : a < P.length), P[a].mb < N /\ P[a].rb < N) (ty : Nat) (hU : P.length <= 1073741824) : ∃ g cap w', (Builtin.append_ #[30, 30] ty #[u, .slice (some ⟨w.heap.size, 0, none⟩) 1 1]).run prog (w.alloc (.cells #[.pointer (some ⟨p.mb, 0, none⟩)] 39)) = .ok (.slice (some ⟨g, 0, none⟩) (P.length + 1) cap) w' /\ Kw (w'.setCell ⟨wb, 0, none⟩ (.slice (some ⟨g, 0, none⟩) (P.length + 1) cap)) wb (P ++ [p]) (.slice (some ⟨g, 0, none⟩) (P.length + 1) cap) /\ w'.cell? ⟨wb, 0, none⟩ = some u /\ (∀ o, w'.frozen? ⟨wb, o, none⟩ = false) /\ wb < w'.heap.size /\ Kept (wb :: u.ownBlock.toList) w w' := by
 obtain ⟨i0, hi, hz0, hz1, hz2⟩ := info_parts info_xm
 have k0 : Kept [] w (w.alloc (.cells #[.pointer (some ⟨p.mb, 0, none⟩)] 39)) := zq136
 have ha := h.keep k0
 have hl := h.lt
 obtain ⟨g, cap, w', hr, ho, hg, hat, hlt⟩ := run_append_lies (P := prog) (w.alloc (.cells #[.pointer (some ⟨p.mb, 0, none⟩)] 39)) 30 ty (wb + 1) 39 i0 (.pointer none) 1 8 Tryz.underlying30 hi hz0 hz1 hz2 rfl (by decide) u P.length (ptrs (P.map Kp1.mb)) ha.ox ⟨w.heap.size, 0, none⟩ 1 1 [.pointer (some ⟨p.mb, 0, none⟩)] rfl (by
  intro j x hj
  match j, hj with
  | 0, hj => simp at hj; subst hj; simp [Addr.add]
  | j + 1, hj => simp at hj) (by intro x hx; simp at hx; subst hx; rfl) (by decide) zq490 (by omega) (by simp; omega) _ rfl
 have hk := grown_kept hg
 have n0 : wb ∉ u.ownBlock.toList := fun q => by have := (ha.ox.lt wb (by simpa using q)).1; omega
 refine ⟨g, cap, w', hr, ha.push p (hp.kept k0) N hN h0 hu hP g cap hg ho hat, (hk.cell (p := ⟨wb, 0, none⟩) ha.lt n0).trans ha.c0, fun o => (hk.frozen (p := ⟨wb, o, none⟩) ha.lt n0).trans (ha.fro o), Nat.lt_of_lt_of_le ha.lt hk.size, ?_⟩
 exact (k0.mono (by simp)).trans (hk.mono (fun k q => by simp at q |-; exact .inr q))
theorem wpList_appk {ops : Array Oper} {rest : List Oper} {o : Oper} {a : Act} {Q : Exit -> Act -> World -> Prop} (hgd : o.guard = none) (s x : Operand) (ho : o.op = .call { callee := .builtin .append, args := #[s, x], argTypes := #[30, 30] })
 {w : World} {wb : Nat} {P : List Kp1} {u : Value} (h : Kw w wb P u) (p : Kp1) (hp : Mz w p.mb p.rb p.z) (N : Nat) (hN : N <= p.mb /\ N <= p.rb) (h0 : wb < N) (hu : ∀ k, u.ownBlock = some k -> k < N) (hP : ∀ a (h : a < P.length), P[a].mb < N /\ P[a].rb < N) (hU : P.length <= 1073741824) (hs : a.eval s = u) (hx : a.eval x = .slice (some ⟨w.heap.size, 0, none⟩) 1 1)
 (hK : ∀ g cap w', Kw (w'.setCell ⟨wb, 0, none⟩ (.slice (some ⟨g, 0, none⟩) (P.length + 1) cap)) wb (P ++ [p]) (.slice (some ⟨g, 0, none⟩) (P.length + 1) cap) -> w'.cell? ⟨wb, 0, none⟩ = some u -> (∀ o, w'.frozen? ⟨wb, o, none⟩ = false) -> wb < w'.heap.size -> Kept (wb :: u.ownBlock.toList) w w' -> wpList prog ops Q rest (a.put o.dst (.slice (some ⟨g, 0, none⟩) (P.length + 1) cap)) w') :
 wpList prog ops Q (o :: rest) a (w.alloc (.cells #[.pointer (some ⟨p.mb, 0, none⟩)] 39)) := by
 refine wpList_plain hgd fun K hK' => ?_
 obtain ⟨g, cap, w', hr, h1, h2, h3, h4, h5⟩ := app_k h p hp N hN h0 hu hP o.type hU
 unfold Oper.wp execOp
 simp only [ho, resolve, invoke, builtin, Sem.run_bind, Sem.run_pure, Result.andThen_ok, List.map_toArray, List.map_cons, List.map_nil, hs, hx, hr]
 exact hK' _ _ (hK g cap w' h1 h2 h3 h4 h5)
set_option maxRecDepth 100000 in
theorem k_join (wb : Nat) (P : List Kp1) (u : Value) (p : Kp1) (N : Nat) (hN : N <= p.mb /\ N <= p.rb) (h0 : wb < N) (hu : ∀ k, u.ownBlock = some k -> k < N) (hP : ∀ a (h : a < P.length), P[a].mb < N /\ P[a].rb < N) (hU : P.length <= 1073741824) (w : World) (hw : Hid (Kw w wb P u)) (hp : Hid (Mz w p.mb p.rb p.z)) :
 Calls prog 26 #[.pointer (some ⟨wb, 0, none⟩), .pointer (some ⟨p.mb, 0, none⟩)] w fun e w' => e = .returned (.tuple #[]) /\ KwH w' wb (P.length + 1) /\ Kept (wb :: u.ownBlock.toList) w w' := by
 have c0 := hw.out.c0
 have fr := hw.out.fro
 have hl := hw.out.lt
 have hl' : ¬ wb = w.heap.size := by omega
 go_enter func26, ntmps26
 go_wp2_with (at_builtin; refine wpList_appk rfl _ _ rfl hw.out p hp.out N hN h0 hu hP hU rfl rfl ?_)
 intro g cap w3 L4 d0 df dl B3
 have HL := hide1 (And.intro L4 (B3.setCell (p := ⟨wb, 0, none⟩) (.inl (by simp)) (.slice (some ⟨g, 0, none⟩) (P.length + 1) cap)))
 clear L4 B3 c0 fr
 go_wp2_with fail
 go_end0
 exact ⟨rfl, ⟨_, _, HL.out.1, by simp⟩, HL.out.2⟩
end
namespace Byt
def opT (c : Nat) (i : Ins) : List UInt8 :=
 if c = 100 then regName i.rd.toNat else if c = 115 then regName i.rs1.toNat else if c = 116 then regName i.rs2.toNat else if c = 117 then Lib.itoa i.rs1
 else if c = 109 then Lib.itoa i.im ++ 40 :: (regName i.rs1.toNat ++ [41]) else Lib.itoa i.im
def sepT : List Nat -> Bool -> Ins -> List UInt8
 | [], _, _ => []
 | c :: cs, m, i => (if m then [44, 32] else [32]) ++ (opT c i ++ sepT cs true i)
end Byt
structure Tame (i : Ins) : Prop where
 d0 : 0 <= i.rd
 d1 : i.rd < 32
 s0 : 0 <= i.rs1
 s1 : i.rs1 < 32
 t0 : 0 <= i.rs2
 t1 : i.rs2 < 32
 i0 : -10000000000 < i.im
 i1 : i.im < 10000000000
theorem tab_more {P : Program} {w w' : World} {name : String} {k : IntKind} {zs : List Int} (h : Lib.TabIs P w name k zs) (hb : Below w.heap.size w w') : Lib.TabIs P w' name k zs := by
 unfold Lib.TabIs World.var? at h |-
 cases hg : P.globalNamed name with
 | none => rw [hg] at h; simp at h
 | some g =>
  rw [hg] at h
  simp only [Option.bind_some] at h |-
  have hlt : g < w.heap.size := by
   refine Nat.lt_of_not_le fun hle => ?_
   rw [Array.getElem?_eq_none hle] at h; simp at h
  rw [hb.block g hlt]; exact h
theorem grow_below (w : World) (k : Nat) (os : Array Obj) : Below w.heap.size w (Go.Sort.grow (w.drewN k) os) := by
 have h1 : Below w.heap.size w (w.drewN k) := ⟨rfl, rfl, rfl, Nat.le_refl _, fun _ _ => rfl⟩
 refine h1.trans ⟨rfl, rfl, rfl, by unfold Go.Sort.grow; simp, fun j hj => ?_⟩
 show ((w.drewN k).heap ++ os)[j]? = (w.drewN k).heap[j]?
 exact Array.getElem?_append_left hj
def Tb (w : World) : Prop := Lib.TabIs prog w "internal/strconv.uint64pow10" .u64 Lib.pow10Tab
theorem Tb.more {w w' : World} (h : Tb w) (hb : Below w.heap.size w w') : Tb w' := tab_more h hb
theorem a_itoa (v : Int) (h0 : -1099511627776 <= v) (h1 : v <= 1099511627776) (w : World) (ht : Tb w) :
 CB 213 #[.int .i64 v] (Byt.strV (Lib.itoa v)) w := by
 refine (Tryz.strconv_Itoa v (by omega) (by omega) w ht).mono ?_
 rintro e w' ⟨rfl, k, os, rfl⟩
 exact ⟨rfl, grow_below _ _ _⟩
theorem itoa_len (v : Int) (h0 : -1099511627776 <= v) (h1 : v <= 1099511627776) : (Lib.itoa v).length <= 21 := Lib.itoa_length_le v (by omega) (by omega)
theorem regName_len (n : Nat) (h : n < 100) : (Byt.regName n).length <= 11 := by
 have hlen := List.all_eq_true.1 names_short n (by simpa using h)
 rw [decide_eq_true_eq] at hlen
 simp only [Byt.regName, List.length_cons]; omega
theorem a_operandText (c : Nat) (hc : c = 100 \/ c = 115 \/ c = 116 \/ c = 109 \/ c = 106 \/ c = 117 \/ c = 105) (i : Ins) (hi : Tame i) (w : World) (ht : Tb w) :
 CB 216 #[.int .u8 c, insV i] (Byt.strV (Byt.opT c i)) w := by
 obtain ⟨rd, hrd⟩ : ∃ n : Nat, i.rd = n := ⟨i.rd.toNat, by have := hi.d0; omega⟩
 obtain ⟨rs1, hrs1⟩ : ∃ n : Nat, i.rs1 = n := ⟨i.rs1.toNat, by have := hi.s0; omega⟩
 obtain ⟨rs2, hrs2⟩ : ∃ n : Nat, i.rs2 = n := ⟨i.rs2.toNat, by have := hi.t0; omega⟩
 have b0 : rd < 32 := by have := hi.d1; omega
 have b1 : rs1 < 32 := by have := hi.s1; omega
 have b2 : rs2 < 32 := by have := hi.t1; omega
 have b3 := hi.i0
 have b4 := hi.i1
 clear hi
 obtain ⟨op, d, s, t, im, ln⟩ := i
 simp only at hrd hrs1 hrs2 b3 b4
 subst hrd hrs1 hrs2
 unfold insV Byt.opT
 simp only [Int.toNat_natCast]
 have hbw : ∀ o, Below w.heap.size w (w.alloc o) := fun o => (Below.refl _ _).alloc (Nat.le_refl _) _
 have HT : Hid (∀ o, Tb (w.alloc o)) := fun o => ht.more (hbw o)
 rcases hc with rfl | rfl | rfl | rfl | rfl | rfl | rfl
 . simp only [if_true]
   obtain ⟨X, hX⟩ := zn1 (Byt.strV (Byt.regName rd))
   have hr := fun w => a_registerName rd (by omega) w
   exact zq374
 . rw [if_neg (by decide), if_pos rfl]
   obtain ⟨X, hX⟩ := zn1 (Byt.strV (Byt.regName rs1))
   have hr := fun w => a_registerName rs1 (by omega) w
   exact zq374
 . rw [if_neg (by decide), if_neg (by decide), if_pos rfl]
   obtain ⟨X, hX⟩ := zn1 (Byt.strV (Byt.regName rs2))
   have hr := fun w => a_registerName rs2 (by omega) w
   exact zq374
 . rw [if_neg (by decide), if_neg (by decide), if_neg (by decide), if_neg (by decide), if_pos rfl]
   obtain ⟨X, hX⟩ := zn1 (⟨(Byt.regName rs1).toArray⟩ : ByteArray)
   obtain ⟨Y, hY⟩ := zn1 (⟨(Lib.itoa im).toArray⟩ : ByteArray)
   obtain ⟨Z1, hZ1⟩ := zn1 (⟨(Lib.itoa im ++ [40]).toArray⟩ : ByteArray)
   obtain ⟨Z2, hZ2⟩ := zn1 (⟨((Lib.itoa im ++ [40]) ++ Byt.regName rs1).toArray⟩ : ByteArray)
   obtain ⟨Z3, hZ3⟩ := zn1 (⟨(((Lib.itoa im ++ [40]) ++ Byt.regName rs1) ++ [41]).toArray⟩ : ByteArray)
   have l1 := itoa_len im (by omega) (by omega)
   have l2 := regName_len rs1 (by omega)
   have a1 : ∀ w, (Op.stringOp .add Y ⟨#[40]⟩).run prog w = .ok (.string Z1) w := fun w => add_str (a := Y) (b := ⟨#[40]⟩) (c := Z1) (by rw [hY, hZ1]; exact mk_app _ [40]) (by rw [hY]; simp [ByteArray.size]; omega) w
   have a2 : ∀ w, (Op.stringOp .add Z1 X).run prog w = .ok (.string Z2) w := fun w => add_str (a := Z1) (b := X) (c := Z2) (by rw [hZ1, hX, hZ2]; exact mk_app _ _) (by rw [hZ1, hX]; simp [ByteArray.size]; omega) w
   have a3 : ∀ w, (Op.stringOp .add Z2 ⟨#[41]⟩).run prog w = .ok (.string Z3) w := fun w => add_str (a := Z2) (b := ⟨#[41]⟩) (c := Z3) (by rw [hZ2, hZ3]; exact mk_app _ [41]) (by rw [hZ2]; simp [ByteArray.size]; omega) w
   have hr := fun w => a_registerName rs1 (by omega) w
   rw [show Byt.strV (Byt.regName rs1) = .string X by rw [hX]; rfl] at hr
   have hn := fun w ht => a_itoa im (by omega) (by omega) w ht
   rw [show Byt.strV (Lib.itoa im) = .string Y by rw [hY]; rfl] at hn
   obtain ⟨W0, hW0⟩ := zn1 (w.alloc (.cells #[.int .i64 op, .int .i64 rd, .int .i64 rs1, .int .i64 rs2, .int .i64 im, .int .i64 ln] 60))
   have hc2 : W0.cell? ⟨w.heap.size, 2, none⟩ = some (.int .i64 rs1) := by rw [hW0]; simp
   have hl2 : w.heap.size < W0.heap.size := by rw [hW0]; simp
   have hb0 : Below w.heap.size w W0 := by rw [hW0]; exact hbw _
   have ht0 : Tb W0 := ht.more hb0
   have HNA := hide1 ((hn W0.drew (ht0.more (Below.refl _ _).drew)).mono fun e w1 h => (⟨h.1, (h.2.cell (p := ⟨w.heap.size, 2, none⟩) hl2).trans hc2, hide1 (hb0.trans ((Below.refl _ _).drew.trans (h.2.mono (Nat.le_of_lt hl2))))⟩ : _ /\ w1.cell? ⟨w.heap.size, 2, none⟩ = some (.int .i64 rs1) /\ Hid (Below w.heap.size w w1)))
   rw [hW0] at HNA
   clear hc2 hl2 hb0 ht0 hW0
   rw [show Byt.strV (Lib.itoa im ++ 40 :: (Byt.regName rs1 ++ [41])) = .string Z3 by rw [hZ3]; unfold Byt.strV; simp]
   have HR := hide1 hr
   clear hr hn hX hY hZ1 hZ2 hZ3 l1 l2 ht
   go_enter func216, ntmps216
   go_upto_region 11 with fail
   go_region_with (first | (go_at_call 303; refine (HR.out _).mono ?_; rintro e w' ⟨rfl, rfl⟩) | (go_at_call 213; with_reducible refine HNA.out.mono ?_; rintro e w1 ⟨rfl, d2, hb1⟩))
   all_goals (go_wp2; go_ret; exact ⟨rfl, hb1.out⟩)
 . exact zq375
 . rw [if_neg (by decide), if_neg (by decide), if_neg (by decide), if_pos rfl]
   obtain ⟨X, hX⟩ := zn1 (Byt.strV (Lib.itoa (rs1 : Int)))
   have hr := fun w ht => a_itoa (rs1 : Int) (by omega) (by omega) w ht
   exact zq376
 . exact zq375
theorem a_dataText (v : Int) (h0 : -1099511627776 <= v) (h1 : v <= 1099511627776) (n : Int) (w : World) (ht : Tb w) :
 CB 142 #[.int .i64 v, .int .i64 n] (Byt.strV (Byt.nmL (if n = 2 then 72 else 71) ++ 32 :: Lib.itoa v)) w := by
 obtain ⟨o, ho⟩ := zn1 (if n = 2 then 72 else 71 : Nat)
 rw [<- ho]
 have hoo : o <= 72 := by rw [ho]; split <;> omega
 obtain ⟨X, hX⟩ := zn1 (Nm.name o : ByteArray)
 obtain ⟨Y, hY⟩ := zn1 (⟨(Lib.itoa v).toArray⟩ : ByteArray)
 obtain ⟨Z1, hZ1⟩ := zn1 (⟨(Byt.nmL o ++ [32]).toArray⟩ : ByteArray)
 obtain ⟨Z2, hZ2⟩ := zn1 (⟨((Byt.nmL o ++ [32]) ++ Lib.itoa v).toArray⟩ : ByteArray)
 have l1 := itoa_len v h0 h1
 have l2 : (Byt.nmL o).length <= 20 := by have := nm_sz o hoo; unfold Byt.nmL; rw [Array.length_toList]; exact this
 have a1 : ∀ w, (Op.stringOp .add X ⟨#[32]⟩).run prog w = .ok (.string Z1) w := fun w => add_str (a := X) (b := ⟨#[32]⟩) (c := Z1) (by rw [hX, hZ1, <- mk_list (Nm.name o)]; exact mk_app _ [32]) (by rw [hX]; have := nm_sz o hoo; have h2 : (⟨#[32]⟩ : ByteArray).size = 1 := rfl; rw [h2]; omega) w
 have a2 : ∀ w, (Op.stringOp .add Z1 Y).run prog w = .ok (.string Z2) w := fun w => add_str (a := Z1) (b := Y) (c := Z2) (by rw [hZ1, hY, hZ2]; exact mk_app _ _) (by rw [hZ1, hY]; simp [ByteArray.size]; omega) w
 have hn := a_itoa v h0 h1 w ht
 rw [show Byt.strV (Lib.itoa v) = .string Y by rw [hY]; rfl] at hn
 rw [show Byt.strV (Byt.nmL o ++ 32 :: Lib.itoa v) = .string Z2 by rw [hZ2]; unfold Byt.strV; simp]
 have HN := hide1 hn
 have HX := hide1 hX
 clear hn hX hY hZ1 hZ2 l1 l2 ht hoo
 by_cases h2 : n = 2
 . rw [if_pos h2] at ho
   have h2' : (n == 2) = true := by simp [h2]
   subst ho
   have HX' : Hid (Nm.name 72 = X) := HX.out.symm
   exact zq377
 . rw [if_neg h2] at ho
   have h2' : (n == 2) = false := by simp [h2]
   subst ho
   have HX' : Hid (Nm.name 71 = X) := HX.out.symm
   exact zq377
namespace Byt
def insT (i : Ins) : List UInt8 := (if i.ln = 2 then 99 :: 46 :: nmL i.op.toNat else nmL i.op.toNat) ++ sepT (shp i.op.toNat) false i
def textD (x : Int) : List UInt8 × Int :=
 if (decodeD x).2 = 0 then
  if (encodeD (decodeD x).1).2 = 0 /\ (encodeD (decodeD x).1).1 = x then (insT (decodeD x).1, 0)
  else (nmL (if (decodeD x).1.ln = 2 then 72 else 71) ++ 32 :: Lib.itoa x, 0)
 else ([], (decodeD x).2)
end Byt
theorem app_list' (X B : ByteArray) : (X ++ B).data.toList = X.data.toList ++ B.data.toList := by
 rw [ByteArray.data_append, Array.toList_append]
theorem opT_len (c : Nat) (i : Ins) (hi : Tame i) : (Byt.opT c i).length <= 50 := by
 have h1 := regName_len i.rd.toNat (by have := hi.d1; omega)
 have h2 := regName_len i.rs1.toNat (by have := hi.s1; omega)
 have h3 := regName_len i.rs2.toNat (by have := hi.t1; omega)
 have h4 := itoa_len i.im (by have := hi.i0; omega) (by have := hi.i1; omega)
 have h5 := itoa_len i.rs1 (by have := hi.s0; omega) (by have := hi.s1; omega)
 unfold Byt.opT
 repeat (first | omega | split | (simp only [List.length_append, List.length_cons, List.length_nil]; omega))
theorem sep_cons (cs : List Nat) (c : Nat) (K : Nat) (i : Ins) : Byt.sepT (c :: cs) (decide (0 < K)) i = (if 0 < K then [44, 32] else [32]) ++ (Byt.opT c i ++ Byt.sepT cs true i) := by
 by_cases h : 0 < K <;> simp [Byt.sepT, h]
theorem a_insText (i : Ins) (hi : Hid (Tame i)) (o : Nat) (ho : i.op = o) (ho70 : o <= 70) (w : World) (ht : Hid (Tb w)) :
 CB 143 #[insV i] (Byt.strV (Byt.insT i)) w := by
 obtain ⟨T, hT⟩ := zn1 (Byt.insT i)
 rw [<- hT]
 unfold Byt.insT at hT
 rw [show i.op.toNat = o by omega] at hT
 obtain ⟨NM, hNM⟩ := zn1 (Nm.name i.op)
 obtain ⟨S, hS⟩ := zn1 (Nm.shape i.op)
 have hSo := shape_ok o (by omega)
 have hSs : Byt.shp o = S.data.toList.map UInt8.toNat := by rw [hS, ho]; rfl
 have hSl : S.size <= 8 := by rw [hS, ho]; exact hSo.1
 have hSc : Hid (∀ k (h : k < S.size), S[k].toNat = 100 \/ S[k].toNat = 115 \/ S[k].toNat = 116 \/ S[k].toNat = 109 \/ S[k].toNat = 106 \/ S[k].toNat = 117 \/ S[k].toNat = 105) := by rw [hS, ho]; exact hSo.2
 rw [hSs] at hT
 have hsh := short_add o (by omega)
 obtain ⟨SN, hSN⟩ := zn1 (⟨(99 :: 46 :: Byt.nmL o).toArray⟩ : ByteArray)
 have hsn := fun w => a_shortName o (by omega) w
 rw [show Byt.strV (99 :: 46 :: Byt.nmL o) = .string SN by rw [hSN]; rfl, <- ho] at hsn
 obtain ⟨X0, hX0⟩ := zn1 (if i.ln = 2 then SN else NM : ByteArray)
 have hnl : (Byt.nmL o).length <= 20 := by have := nm_sz o (by omega); unfold Byt.nmL; rw [Array.length_toList]; exact this
 have hX0s : X0.size <= 40 := by
  rw [hX0]; split
  . rw [hSN]; simp [ByteArray.size]; omega
  . rw [hNM, ho]; have := nm_sz o (by omega); omega
 have hT0 : Hid (T = X0.data.toList ++ Byt.sepT ((S.data.toList.map UInt8.toNat).drop 0) (decide (0 < 0)) i) := by
  show T = _
  rw [hT, hX0]
  split
  . rw [hSN]; rfl
  . rw [hNM, ho]; rfl
 have HNM := hide1 hNM
 have HS := hide1 hS
 have HSN := hide1 hsn
 clear hT hSo hSs hsh hsn hSN hnl hNM hS ho ho70
 unfold insV
 go_enter func143, ntmps143
 go_wp2_with fail
 refine (a_Name i.op _).mono ?_
 rintro e w' ⟨rfl, rfl⟩
 rw [<- HNM.out]
 go_upto_if 11 with fail
 go_cut [3] from 11 to 14 (fun v wx => v = .string X0 /\ wx = w.alloc (.cells #[.int .i64 i.op, .int .i64 i.rd, .int .i64 i.rs1, .int .i64 i.rs2, .int .i64 i.im, .int .i64 i.ln] 60))
 case first =>
  by_cases h2 : i.ln = 2
  . have h2' : (i.ln == 2) = true := by simp [h2]
    rw [if_pos h2] at hX0
    have HX0 := hide1 hX0
    clear hX0 h2
    go_wp2_with (go_at_call 214; refine (HSN.out _).mono ?_; rintro e w' ⟨rfl, rfl⟩)
    go_meet
    case rel => exact ⟨by rw [HX0.out], rfl⟩
  . have h2' : (i.ln == 2) = false := by simp [h2]
    rw [if_neg h2] at hX0
    have HX0 := hide1 hX0
    clear hX0 h2
    go_wp2
    go_meet
    case rel => exact ⟨by rw [HX0.out], rfl⟩
 case rest =>
  obtain ⟨rfl, rfl⟩ := hcut
  clear hX0 HSN HNM
  go_wp2_with (go_at_call 215; refine (a_Shape i.op _).mono ?_; rintro e w' ⟨rfl, rfl⟩; rw [<- HS.out])
  go_loopw [3, 5] (fun v k5 wr => ∃ (K : Nat) (X : ByteArray), K <= S.size /\ X.size <= 40 + 60 * K /\ v = .string X /\ k5 = .int .i64 K /\ Hid (Ized i w wr) /\ Hid (T = X.data.toList ++ Byt.sepT ((S.data.toList.map UInt8.toNat).drop K) (decide (0 < K)) i)) (fun _ k5 _ => S.size - (intOf k5).toNat)
  case atStart => exact ⟨0, X0, by omega, by omega, rfl, rfl, hide1 (Ized.start i w _), hT0⟩
  case round =>
   obtain ⟨K, X, hK, hXs, rfl, rfl, hz, hh⟩ := hrel
   clear hT0 hX0s
   by_cases hlt : K < S.size
   . rw [drop_sh S K hlt, sep_cons] at hh
     obtain ⟨c, hc⟩ := zn1 (S[K].toNat)
     rw [<- hc] at hh
     have hcl := hSc.out K hlt
     rw [<- hc] at hcl
     have hci : S[K].toNat = c := hc.symm
     have HCL := hide1 hcl
     clear hc hcl
     obtain ⟨X1, hX1⟩ := zn1 (if 0 < K then X ++ ⟨#[44, 32]⟩ else X ++ ⟨#[32]⟩ : ByteArray)
     have hX1l : X1.data.toList = X.data.toList ++ (if 0 < K then [44, 32] else [32]) := by
      rw [hX1]; split <;> rw [app_list']
     have hX1s : X1.size <= X.size + 2 := by
      have h1 : (⟨#[44, 32]⟩ : ByteArray).size = 2 := rfl
      have h2 : (⟨#[32]⟩ : ByteArray).size = 1 := rfl
      rw [hX1]; split <;> rw [ByteArray.size_append] <;> omega
     have a1 : 0 < K -> ∀ w, (Op.stringOp .add X ⟨#[44, 32]⟩).run prog w = .ok (.string X1) w := fun hk w => add_str (a := X) (b := ⟨#[44, 32]⟩) (c := X1) (by rw [hX1, if_pos hk]) (by have h2 : (⟨#[44, 32]⟩ : ByteArray).size = 2 := rfl; rw [h2]; omega) w
     have a2 : ¬ 0 < K -> ∀ w, (Op.stringOp .add X ⟨#[32]⟩).run prog w = .ok (.string X1) w := fun hk w => add_str (a := X) (b := ⟨#[32]⟩) (c := X1) (by rw [hX1, if_neg hk]) (by have h2 : (⟨#[32]⟩ : ByteArray).size = 1 := rfl; rw [h2]; omega) w
     have A1 := hide1 a1
     have A2 := hide1 a2
     obtain ⟨Y, hY⟩ := zn1 (⟨(Byt.opT c i).toArray⟩ : ByteArray)
     have hYs : Y.size <= 50 := by rw [hY]; exact opT_len c i hi.out
     obtain ⟨X2, hX2⟩ := zn1 (X1 ++ Y : ByteArray)
     have a3 : ∀ w, (Op.stringOp .add X1 Y).run prog w = .ok (.string X2) w := fun w => add_str (a := X1) (b := Y) (c := X2) hX2.symm (by omega) w
     have hX2s : X2.size <= 40 + 60 * (K + 1) := by rw [hX2, ByteArray.size_append]; omega
     have hgo : Hid (T = X2.data.toList ++ Byt.sepT ((S.data.toList.map UInt8.toNat).drop (K + 1)) (decide (0 < K + 1)) i) := by
      show T = _
      rw [hh.out, hX2, app_list', hX1l, hY, decide_eq_true (Nat.succ_pos K)]
      simp only [List.append_assoc]
     have hcall := a_operandText c HCL.out i hi.out wr.drew ((ht.out.more hz.out.below).more (Below.refl _ _).drew)
     rw [show Byt.strV (Byt.opT c i) = .string Y by rw [hY]; rfl] at hcall
     have HCALL := hide1 (hcall.mono fun e w1 h => (⟨h.1, hide1 (hz.out.more ((Below.refl _ _).drew.trans h.2))⟩ : _ /\ Hid (Ized i w w1)))
     unfold insV at HCALL
     clear hh hX1 hX1l a1 a2 hY hX2 hcall
     go_upto_if 25 with fail
     go_cut [3] from 25 to 29 (fun v wx => v = .string X1 /\ wx = wr)
     case first =>
      by_cases hk : 0 < K
      . have e1 : ((K : Int) == 0) = false := by simp; omega
        have e2 : (K == 0) = false := by simp; omega
        have b1 := A1.out hk
        clear A1 A2 a3
        exact zq362
      . obtain rfl : K = 0 := by omega
        have b1 := A2.out hk
        clear A1 A2 a3
        exact zq362
     case rest =>
      obtain ⟨rfl, rfl⟩ := hcut
      clear A1 A2
      have z0 := hz.out.c0
      have z1 := hz.out.c1
      have z2 := hz.out.c2
      have z3 := hz.out.c3
      have z4 := hz.out.c4
      have z5 := hz.out.c5
      go_upto_region 11 with fail
      go_region_with (go_at_call 216; with_reducible refine HCALL.out.mono ?_; rintro e w1 ⟨rfl, hz1⟩)
      all_goals clear z0 z1 z2 z3 z4 z5 HCALL a3 hz
      all_goals go_wp2
      all_goals go_roundw
      all_goals first
       | exact ⟨K + 1, X2, by omega, hX2s, rfl, by go_num, hz1, hgo⟩
       | (simp [intOf]; omega)
       | ((repeat apply Exists.intro); exact ⟨⟨K + 1, X2, by omega, hX2s, rfl, by go_num, hz1, hgo⟩, rfl⟩)
   . have hlt' : decide ((K : Int) < (S.size : Int)) = false := by simp; omega
     have hgo : Hid (T = X.data.toList) := by
      show T = _
      rw [hh.out, List.drop_eq_nil_of_le (by rw [List.length_map, Array.length_toList]; show S.size <= K; omega)]; simp [Byt.sepT]
     clear hh
     go_wp2
     go_ret
     exact ⟨by rw [hgo.out]; unfold Byt.strV; rw [mk_list]; rfl, hz.out.below⟩
theorem a_Text (x : Int) (hx : Hid ((decodeD x).2 = 0 -> Tame (decodeD x).1 /\ 0 <= (decodeD x).1.op /\ (decodeD x).1.op <= 70 /\ 0 <= x /\ x <= 4294967295)) (w : World) (ht : Hid (Tb w)) :
 CB 88 #[.int .i64 x] (.tuple #[Byt.strV (Byt.textD x).1, .int .i64 (Byt.textD x).2]) w := by
 obtain ⟨T, hT⟩ := zn1 (Byt.textD x)
 rw [<- hT]
 unfold Byt.textD at hT
 have hdec := i_Decode x w
 obtain ⟨D, hD⟩ := zn1 (decodeD x)
 rw [<- hD] at hdec hT hx
 have HDEC := hide1 hdec
 clear hdec hD
 obtain ⟨i, er⟩ := D
 simp only at hT hx
 unfold insV at HDEC
 by_cases her : er = 0
 . have her' : (er != 0) = false := by simp [her]
   rw [if_pos her] at hT
   obtain ⟨hi, ho0, ho70, hx0, hx1⟩ := hx.out her
   obtain ⟨o, ho⟩ : ∃ o : Nat, i.op = o := ⟨i.op.toNat, by omega⟩
   have hit := fun W hW => a_insText i (hide1 hi) o ho (by omega) W hW
   have hdt := fun W hW => a_dataText x (by omega) (by omega) i.ln W hW
   have henc := fun W => i_Encode i W
   obtain ⟨V, hV⟩ := zn1 (encodeD i)
   rw [<- hV] at henc hT
   obtain ⟨A, hA⟩ := zn1 (Byt.strV (Byt.insT i))
   obtain ⟨B, hB⟩ := zn1 (Byt.strV (Byt.nmL (if i.ln = 2 then 72 else 71) ++ 32 :: Lib.itoa x))
   rw [<- hA] at hit
   rw [<- hB] at hdt
   have HIT := hide1 hit
   have HDT := hide1 hdt
   have HENC := hide1 henc
   have HA := hide1 hA
   have HB := hide1 hB
   unfold insV at HIT HENC
   clear hit hdt henc hV hA hB hi ho0 ho70 hx her ho
   obtain ⟨v, no⟩ := V
   simp only at hT
   go_enter func88, ntmps88
   go_wp2_with fail
   refine HDEC.out.mono ?_
   rintro e w1 ⟨rfl, hb1⟩
   clear HDEC
   have hz1 : Ized i w1 (w1.alloc (.cells #[.int .i64 i.op, .int .i64 i.rd, .int .i64 i.rs1, .int .i64 i.rs2, .int .i64 i.im, .int .i64 i.ln] 60)) := Ized.start i w1 _
   have HZ1 := hide1 hz1
   clear hz1
   go_wp2_with fail
   refine (HENC.out _).mono ?_
   rintro e w2 ⟨rfl, hb2⟩
   have hz2 := HZ1.out.more hb2
   have z0 := hz2.c0
   have z1 := hz2.c1
   have z2 := hz2.c2
   have z3 := hz2.c3
   have z4 := hz2.c4
   have z5 := hz2.c5
   have hb12 := hide1 (hb1.trans (hz2.below.mono hb1.size))
   have ht2 := hide1 (ht.out.more hb12.out)
   clear HZ1 hz2 hb1 hb2 HENC
   by_cases hno : no = 0
   . have hno' : (no != 0) = false := by simp [hno]
     by_cases hv : v = x
     . have hv' : (v != x) = false := by simp [hv]
       rw [if_pos ⟨hno, hv⟩] at hT
       have HT := hide1 hT
       clear hT hno
       have hv2 := hide1 hv
       clear hv
       go_wp2_with (go_at_call 143; refine (HIT.out _ ht2).mono ?_; rintro e w3 ⟨rfl, hb3⟩)
       go_ret2
       exact ⟨by rw [HT.out, HA.out]; rfl, hb12.out.trans (hb3.mono hb12.out.size)⟩
     . have hv' : (v != x) = true := by simp [hv]
       rw [if_neg (fun h => hv h.2)] at hT
       have HT := hide1 hT
       clear hT hno hv
       exact zq378
   . have hno' : (no != 0) = true := by simp [hno]
     rw [if_neg (fun h => hno h.1)] at hT
     have HT := hide1 hT
     clear hT hno
     exact zq378
 . have her' : (er != 0) = true := by simp [her]
   rw [if_neg her] at hT
   have HT := hide1 hT
   clear hT her
   go_enter func88, ntmps88
   go_wp2_with fail
   refine HDEC.out.mono ?_
   rintro e w1 ⟨rfl, hb1⟩
   go_wp2
   go_ret2
   exact ⟨by rw [HT.out]; rfl, hb1.alloc hb1.size _⟩
theorem decode_ways (x : Int) : (decodeD x = (ins0, 2) /\ sizeOf x = 0) \/ ∃ W : Nat, x = W /\ W < 4294967296 /\
 ((sizeOf x = 4 /\ (decodeD x = (⟨0, 0, 0, 0, 0, 4⟩, 0) \/ ∃ n : Nat, 1 <= n /\ n <= 70 /\ rowFits (Tab.longRow n) W = true /\ decodeD x = (rowIns (Tab.longRow n) W, 0))) \/
  (sizeOf x = 2 /\ W < 65536 /\ ¬ W % 4 = 3 /\ (decodeD x = (⟨0, 0, 0, 0, 0, 2⟩, 0) \/ ∃ n : Nat, 1 <= n /\ n <= 26 /\ rowFits (Tab.shortRow n) W = true /\ decodeD x = (rowIns (Tab.shortRow n) W, 0)))) := by
 rcases size_ways x with h | ⟨h, h0, h1⟩
 . left
   exact ⟨by unfold decodeD; rw [if_pos h], h⟩
 . right
   obtain ⟨W, rfl⟩ := Int.eq_ofNat_of_zero_le h0
   refine ⟨W, rfl, by omega, ?_⟩
   rcases h with h | h
   . left
     refine ⟨h, ?_⟩
     unfold decodeD
     rw [h, if_neg (by decide), Int.toNat_natCast]
     cases hs : scan (rowMeans 4 W) 1 (rowCount 4).toNat with
     | none => left; rfl
     | some j =>
      right
      obtain ⟨k, k1, k2, k3⟩ := scan_someE _ _ hs
      have hc : (rowCount 4).toNat = 70 := rfl
      rw [hc] at k2
      unfold rowMeans at k3
      split at k3
      . exact zq379
      . cases k3
   . right
     have hw : W <= 65535 /\ ¬ W % 4 = 3 := by
      unfold sizeOf at h
      split at h
      . cases h
      . split at h
        . cases h
        . split at h
          . omega
          . cases h
     refine ⟨h, by omega, hw.2, ?_⟩
     unfold decodeD
     rw [h, if_neg (by decide), Int.toNat_natCast]
     cases hs : scan (rowMeans 2 W) 1 (rowCount 2).toNat with
     | none => left; rfl
     | some j =>
      right
      obtain ⟨k, k1, k2, k3⟩ := scan_someE _ _ hs
      have hc : (rowCount 2).toNat = 26 := rfl
      rw [hc] at k2
      unfold rowMeans at k3
      split at k3
      . exact zq379
      . cases k3
def bnd (c : UInt8) (q : List UInt8) : Nat := if Pic.cnt (· == c) q = 0 then 0 else if Pic.cnt (· == c) q = 3 then 15 else 2 ^ Pic.cnt (· == c) q - 1
theorem reg_bnd (s : ByteArray) (c : UInt8) (W : Nat) : regOf s c W <= bnd c (Pic.rv s.data.toList s.size) := by
 have h := Pic.val_lt (· == c) (Pic.rv s.data.toList s.size) W
 unfold regOf bnd
 exact zq326
def rowTame (t : Int × ByteArray × Int) : Bool :=
 let q := Pic.rv t.2.1.data.toList t.2.1.size
 let sh := (Nm.shape t.1).data.toList.map UInt8.toNat
 decide (1 <= t.1) && decide (t.1 <= 70) && decide (0 <= toldRd t.2.2) && decide ((bnd 68 q : Int) + bnd 66 q + toldRd t.2.2 <= 31) && decide (0 <= toldRs1 t.2.2) && decide ((bnd 83 q : Int) + bnd 66 q + toldRs1 t.2.2 <= 31) && decide (bnd 84 q <= 31) && decide (Pic.most q < 4294967296) && decide (Pic.high q < 4294967296) &&
 (sh.contains 100 || decide ((bnd 68 q : Int) + bnd 66 q + toldRd t.2.2 = 0)) && (sh.contains 115 || sh.contains 109 || sh.contains 117 || decide ((bnd 83 q : Int) + bnd 66 q + toldRs1 t.2.2 = 0)) && (sh.contains 116 || decide (bnd 84 q = 0)) && (sh.contains 105 || sh.contains 106 || sh.contains 109 || (decide (Pic.most q = 0) && decide (Pic.high q = 0)))
theorem longs_tame : ((List.range 71).all fun n => n == 0 || rowTame (Tab.longRow n)) = true := by decide +kernel
theorem shorts_tame : ((List.range 27).all fun n => n == 0 || rowTame (Tab.shortRow n)) = true := by decide +kernel
theorem imm_tame (s : ByteArray) (neg : Bool) (W : Nat) (h1 : Pic.most (Pic.rv s.data.toList s.size) < 4294967296) (h2 : Pic.high (Pic.rv s.data.toList s.size) < 4294967296) : -10000000000 < immOf s neg W /\ immOf s neg W < 10000000000 := zq327
theorem imm_zero (s : ByteArray) (neg : Bool) (W : Nat) (h1 : Pic.most (Pic.rv s.data.toList s.size) = 0) (h2 : Pic.high (Pic.rv s.data.toList s.size) = 0) : immOf s neg W = 0 := by
 have a := Pic.sum_le_most (Pic.rv s.data.toList s.size) W
 unfold immOf
 rw [Pic.imm_of, h2]
 split <;> omega
structure Real (i : Ins) (o : Nat) : Prop where
 op : i.op = o
 o1 : 1 <= o
 o70 : o <= 70
 tame : Tame i
 rd : 100 ∈ Byt.shp o \/ i.rd = 0
 rs1 : 115 ∈ Byt.shp o \/ 109 ∈ Byt.shp o \/ 117 ∈ Byt.shp o \/ i.rs1 = 0
 rs2 : 116 ∈ Byt.shp o \/ i.rs2 = 0
 im : 105 ∈ Byt.shp o \/ 106 ∈ Byt.shp o \/ 109 ∈ Byt.shp o \/ i.im = 0
theorem row_real (t : Int × ByteArray × Int) (h : rowTame t = true) (W : Nat) : ∃ o, Real (rowIns t W) o := by
 obtain ⟨a, s, r⟩ := t
 have b68 := reg_bnd s 68 W
 have b66 := reg_bnd s 66 W
 have b83 := reg_bnd s 83 W
 have b84 := reg_bnd s 84 W
 simp only [rowTame, Bool.and_eq_true, Bool.or_eq_true, decide_eq_true_eq, List.contains_iff_mem] at h
 obtain ⟨⟨⟨⟨⟨⟨⟨⟨⟨⟨⟨⟨h1, h2⟩, h3⟩, h4⟩, h5⟩, h6⟩, h7⟩, h8⟩, h9⟩, h10⟩, h11⟩, h12⟩, h13⟩ := h
 have him := imm_tame s (hasB r 1) W h8 h9
 obtain ⟨o, rfl⟩ := Int.eq_ofNat_of_zero_le (show 0 <= a by omega)
 refine ⟨o, rfl, by omega, by omega, ⟨?_, ?_, ?_, ?_, ?_, ?_, him.1, him.2⟩, ?_, ?_, ?_, ?_⟩
 . show (0 : Int) <= regOf s 68 W + regOf s 66 W + toldRd r; omega
 . show (regOf s 68 W : Int) + regOf s 66 W + toldRd r < 32; omega
 . show (0 : Int) <= regOf s 83 W + regOf s 66 W + toldRs1 r; omega
 . show (regOf s 83 W : Int) + regOf s 66 W + toldRs1 r < 32; omega
 . show (0 : Int) <= regOf s 84 W; omega
 . show (regOf s 84 W : Int) < 32; omega
 . rcases h10 with h | h
   . exact .inl h
   . exact .inr (by show (regOf s 68 W : Int) + regOf s 66 W + toldRd r = 0; omega)
 . rcases h11 with ((h | h) | h) | h
   . exact .inl h
   . exact .inr (.inl h)
   . exact .inr (.inr (.inl h))
   . exact .inr (.inr (.inr (by show (regOf s 83 W : Int) + regOf s 66 W + toldRs1 r = 0; omega)))
 . rcases h12 with h | h
   . exact .inl h
   . exact .inr (by show (regOf s 84 W : Int) = 0; omega)
 . rcases h13 with ((h | h) | h) | h
   . exact .inl h
   . exact .inr (.inl h)
   . exact .inr (.inr (.inl h))
   . exact .inr (.inr (.inr (imm_zero s (hasB r 1) W h.1 h.2)))
theorem long_real (n W : Nat) (h1 : 1 <= n) (h2 : n <= 70) : ∃ o, Real (rowIns (Tab.longRow n) W) o := by
 have h := List.all_eq_true.1 longs_tame n (by simp; omega)
 exact zq380
theorem short_real (n W : Nat) (h1 : 1 <= n) (h2 : n <= 26) : ∃ o, Real (rowIns (Tab.shortRow n) W) o := by
 have h := List.all_eq_true.1 shorts_tame n (by simp; omega)
 exact zq380
theorem tame_im (o im n : Int) (h0 : -10000000000 < im) (h1 : im < 10000000000) : Tame ⟨o, 0, 0, 0, im, n⟩ := ⟨Int.le_refl 0, (show (0 : Int) < 32 by decide), Int.le_refl 0, (show (0 : Int) < 32 by decide), Int.le_refl 0, (show (0 : Int) < 32 by decide), h0, h1⟩
theorem tame0 (n : Int) : Tame ⟨0, 0, 0, 0, 0, n⟩ := tame_im 0 0 n (by decide) (by decide)
theorem decode_tame (x : Int) : (decodeD x).2 = 0 -> Tame (decodeD x).1 /\ 0 <= (decodeD x).1.op /\ (decodeD x).1.op <= 70 /\ 0 <= x /\ x <= 4294967295 := by
 intro h
 rcases decode_ways x with ⟨hd, _⟩ | ⟨W, hx, hW, hc⟩
 . rw [hd] at h; cases h
 . have hr : ∀ i o, Real i o -> Tame i /\ 0 <= i.op /\ i.op <= 70 := fun i o hr => ⟨hr.tame, by have := hr.op; omega, by have := hr.op; have := hr.o70; omega⟩
   rcases hc with ⟨hz, hc⟩ | ⟨hz, hW2, h3, hc⟩
   . rcases hc with hd | ⟨n, n1, n2, hf, hd⟩
     . exact zq381
     . obtain ⟨o, ho⟩ := long_real n W n1 n2
       exact zq382
   . rcases hc with hd | ⟨n, n1, n2, hf, hd⟩
     . exact zq381
     . obtain ⟨o, ho⟩ := short_real n W n1 n2
       exact zq382
theorem a_Text' (x : Int) (w : World) (ht : Hid (Tb w)) :
 CB 88 #[.int .i64 x] (.tuple #[Byt.strV (Byt.textD x).1, .int .i64 (Byt.textD x).2]) w := a_Text x (decode_tame x) w ht
theorem neq_ins (a0 a1 a2 a3 a4 a5 b0 b1 b2 b3 b4 b5 : Int) (w : World) :
 (binOp .neq 60 (.agg #[.int .i64 a0, .int .i64 a1, .int .i64 a2, .int .i64 a3, .int .i64 a4, .int .i64 a5]) (.agg #[.int .i64 b0, .int .i64 b1, .int .i64 b2, .int .i64 b3, .int .i64 b4, .int .i64 b5])).run prog w =
   .ok (.bool (!(a0 == b0 && a1 == b1 && a2 == b2 && a3 == b3 && a4 == b4 && a5 == b5))) w := by
 rw [run_neq_struct, show (10000 : Nat) = 9998 + 1 + 1 from rfl, run_equalIn_agg w (9998 + 1) 60 _ _ und_ins stood_ins, eqFields_ins 9998 _ _ _ _ _ _ _ _ _ _ _ _ _ fields_ins]
 rfl
def KnR (e : Ending) : Prop := ∃ (W : Int) (X : ByteArray), e = .returned (.tuple #[.int .i64 W, .string X])
set_option maxRecDepth 100000 in
theorem k_knownW (k : Nat) (h : k < 96) (w : World) : Calls prog 100 #[.int .i64 k] w fun e w' => KnR e /\ w' = w := by
 match k, h with
 | 0, _ | 1, _ | 2, _ | 3, _ | 4, _ | 5, _ | 6, _ | 7, _ | 8, _ | 9, _ | 10, _ | 11, _ | 12, _ | 13, _ | 14, _ | 15, _ | 16, _ | 17, _ | 18, _ | 19, _ | 20, _ | 21, _ | 22, _ | 23, _ | 24, _ | 25, _ | 26, _ | 27, _ | 28, _ | 29, _ | 30, _ | 31, _ | 32, _ | 33, _ | 34, _ | 35, _ | 36, _ | 37, _ | 38, _ | 39, _ | 40, _ | 41, _ | 42, _ | 43, _ | 44, _ | 45, _ | 46, _ | 47, _ | 48, _ | 49, _ | 50, _ | 51, _ | 52, _ | 53, _ | 54, _ | 55, _ | 56, _ | 57, _ | 58, _ | 59, _ | 60, _ | 61, _ | 62, _ | 63, _ | 64, _ | 65, _ | 66, _ | 67, _ | 68, _ | 69, _ | 70, _ | 71, _ | 72, _ | 73, _ | 74, _ | 75, _ | 76, _ | 77, _ | 78, _ | 79, _ | 80, _ | 81, _ | 82, _ | 83, _ | 84, _ | 85, _ | 86, _ | 87, _ | 88, _ | 89, _ | 90, _ | 91, _ | 92, _ | 93, _ | 94, _ | 95, _ =>
  as_aux_lemma =>
   try simp only [Int.cast_ofNat_Int, Int.natCast_zero, Int.natCast_one, Int.natCast_ofNat]
   go_enter func100, ntmps100
   go_wp2
   go_ret2
   exact ⟨⟨_, _, rfl⟩, rfl⟩
 | n + 96, h => exact absurd h (by omega)
theorem i_EncW (a0 a1 a2 a3 a4 a5 : Int) (w : World) : Calls prog 87 #[.agg #[.int .i64 a0, .int .i64 a1, .int .i64 a2, .int .i64 a3, .int .i64 a4, .int .i64 a5]] w fun e w' => (∃ v f : Int, e = .returned (.tuple #[.int .i64 v, .int .i64 f])) /\ Below w.heap.size w w' :=
 (i_Encode ⟨a0, a1, a2, a3, a4, a5⟩ w).mono (fun _ _ h => ⟨⟨_, _, h.1⟩, h.2⟩)
theorem i_DecW (x : Int) (w : World) : Calls prog 86 #[.int .i64 x] w fun e w' => (∃ a0 a1 a2 a3 a4 a5 f : Int, e = .returned (.tuple #[.agg #[.int .i64 a0, .int .i64 a1, .int .i64 a2, .int .i64 a3, .int .i64 a4, .int .i64 a5], .int .i64 f])) /\ Below w.heap.size w w' :=
 (i_Decode x w).mono (fun _ _ h => ⟨⟨_, _, _, _, _, _, _, h.1⟩, h.2⟩)
theorem a_TxtW (x : Int) (w : World) (ht : Tb w) : Calls prog 88 #[.int .i64 x] w fun e w' => (∃ (X : ByteArray) (f : Int), e = .returned (.tuple #[.string X, .int .i64 f])) /\ Below w.heap.size w w' :=
 (a_Text' x w (hide1 ht)).mono (fun _ _ h => ⟨⟨_, _, h.1⟩, h.2⟩)
theorem a_AsmW (s : ByteArray) (w : World) : Calls prog 67 #[.string s] w fun e w' => (∃ (X : ByteArray) (er n : Int), e = .returned (.tuple #[.string X, .int .i64 er, .int .i64 n])) /\ Below w.heap.size w w' :=
 (a_Assemble s w).mono (fun _ _ h => ⟨⟨_, _, _, h.1⟩, h.2⟩)
theorem u_LeW (v : Int) (n : Int) (hn : n = 2 \/ n = 4) (w : World) : Calls prog 89 #[.int .i64 v, .int .i64 n] w fun e w' => (∃ X : ByteArray, e = .returned (.string X)) /\ Below w.heap.size w w' := by
 rcases hn with rfl | rfl
 . exact (u_Le v 2 (by decide) w).mono (fun _ _ h => ⟨⟨_, h.1⟩, h.2⟩)
 . exact (u_Le v 4 (by decide) w).mono (fun _ _ h => ⟨⟨_, h.1⟩, h.2⟩)
theorem cells6 {w1 w2 : World} {a0 a1 a2 a3 a4 a5 : Value} {t : Nat} {n : Nat} (h : Below n (w1.alloc (.cells #[a0, a1, a2, a3, a4, a5] t)) w2) (hn : w1.heap.size < n) :
 w2.cell? ⟨w1.heap.size, 0, none⟩ = some a0 /\ w2.cell? ⟨w1.heap.size, 1, none⟩ = some a1 /\ w2.cell? ⟨w1.heap.size, 2, none⟩ = some a2 /\ w2.cell? ⟨w1.heap.size, 3, none⟩ = some a3 /\ w2.cell? ⟨w1.heap.size, 4, none⟩ = some a4 /\ w2.cell? ⟨w1.heap.size, 5, none⟩ = some a5 := by
 refine ⟨(h.cell (p := ⟨w1.heap.size, 0, none⟩) hn).trans ?_, (h.cell (p := ⟨w1.heap.size, 1, none⟩) hn).trans ?_, (h.cell (p := ⟨w1.heap.size, 2, none⟩) hn).trans ?_, (h.cell (p := ⟨w1.heap.size, 3, none⟩) hn).trans ?_, (h.cell (p := ⟨w1.heap.size, 4, none⟩) hn).trans ?_, (h.cell (p := ⟨w1.heap.size, 5, none⟩) hn).trans ?_⟩ <;> simp [go_sem]
theorem lt_of6 {w1 w2 : World} {o : Obj} {n : Nat} (h : Below n (w1.alloc o) w2) : w1.heap.size < w2.heap.size := by
 have := h.size
 simp at this; omega
def SomeB (e : Ending) : Prop := ∃ r, e = .returned (.bool r)
set_option maxRecDepth 100000 in
theorem k_wordW (x : Int) (w : World) (ht : Hid (Tb w)) :
 Calls prog 40 #[.int .i64 x] w fun e w' => SomeB e /\ Below w.heap.size w w' := by
 have hq := eql_ins
 have hn := neq_ins
 go_enter func40, ntmps40
 go_wp2_with fail
 refine (i_DecW x w).mono ?_
 rintro e w1 ⟨⟨i0, i1, i2, i3, i4, i5, er, rfl⟩, hb1⟩
 go_upto_if 71 with fail
 all_goals first
  | (go_ret; exact ⟨⟨_, rfl⟩, hb1.alloc hb1.size _⟩)
  | skip
 all_goals
  go_cut [] from 71 to 104 (fun wx => Hid (Below w.heap.size w wx))
  case first =>
   go_wp2_with (first | (go_at_call 87; refine (i_EncW _ _ _ _ _ _ _).mono ?_; rintro e w2 ⟨⟨v, f, rfl⟩, hb2⟩; have HB2 := hide1 ((hb1.alloc hb1.size _).trans (hb2.mono (hb1.alloc hb1.size _).size)); have HH2 := hide1 hb2; clear hb2) | (go_at_call 86; refine (i_DecW _ _).mono ?_; rintro e w3 ⟨⟨j0, j1, j2, j3, j4, j5, er2, rfl⟩, hb3⟩; have HB3 := hide1 (HB2.out.trans (hb3.mono HB2.out.size)); obtain ⟨y0, y1, y2, y3, y4, y5⟩ := cells6 (HH2.out.trans (hb3.mono HH2.out.size)) (by simp); have yl := lt_of6 (HH2.out.trans (hb3.mono HH2.out.size)); clear hb3 HB2 HH2))
   all_goals first
    | (go_meet; case rel => exact hide1 (hb1.alloc hb1.size _))
    | (go_ret; exact ⟨⟨_, rfl⟩, hb1.alloc hb1.size _⟩)
    | (go_ret; exact ⟨⟨_, rfl⟩, HB2.out⟩)
    | (go_meet; case rel => exact hide1 (HB3.out.alloc HB3.out.size _))
    | (go_ret; exact ⟨⟨_, rfl⟩, HB3.out.alloc HB3.out.size _⟩)
  case rest =>
   clear hb1 hq hn
   go_wp2_with (first | (go_at_call 88; refine (a_TxtW _ _ (ht.out.more hcut.out)).mono ?_; rintro e w2 ⟨⟨X, f, rfl⟩, hb2⟩; have HB2 := hide1 (hcut.out.trans (hb2.mono hcut.out.size)); clear hb2) | (go_at_call 67; refine (a_AsmW _ _).mono ?_; rintro e w3 ⟨⟨Y, f3, n3, rfl⟩, hb3⟩; have HB3 := hide1 (HB2.out.trans (hb3.mono HB2.out.size)); clear hb3) | (go_at_call 89; refine (u_LeW _ _ (by decide) _).mono ?_; rintro e w4 ⟨⟨Z, rfl⟩, hb4⟩; have HB4 := hide1 (HB3.out.trans (hb4.mono HB3.out.size)); clear hb4))
   all_goals
    go_ret
    exact ⟨⟨_, rfl⟩, HB4.out⟩
set_option maxRecDepth 100000 in
theorem k_goldW (k : Nat) (hk : k < 96) (w : World) (ht : Hid (Tb w)) :
 Calls prog 51 #[.int .i64 k] w fun e w' => SomeB e /\ Below w.heap.size w w' := by
 have HK := hide1 (k_knownW k hk w)
 go_enter func51, ntmps51
 go_wp2_with fail
 refine HK.out.mono ?_
 rintro e w1 ⟨⟨W, X, rfl⟩, hw1⟩
 rw [hw1]
 clear hw1 HK
 go_wp2_with (first | (go_at_call 88; refine (a_TxtW _ _ ht.out).mono ?_; rintro e w2 ⟨⟨X2, f, rfl⟩, hb2⟩; have HB2 := hide1 hb2; clear hb2) | (go_at_call 67; refine (a_AsmW _ _).mono ?_; rintro e w3 ⟨⟨Y, f3, n3, rfl⟩, hb3⟩; have HB3 := hide1 (HB2.out.trans (hb3.mono HB2.out.size)); clear hb3) | (go_at_call 89; refine (u_LeW _ _ (by decide) _).mono ?_; rintro e w4 ⟨⟨Z, rfl⟩, hb4⟩; have HB4 := hide1 (HB3.out.trans (hb4.mono HB3.out.size)); clear hb4))
 all_goals
  go_ret
  exact ⟨⟨_, rfl⟩, HB4.out⟩
section
attribute [local go_sem ↓] Go.wp_at_zero Go.wp_at_succ
set_option maxRecDepth 100000 in
theorem k_divides (mb rb : Nat) (a b : Int) (a0 : 0 <= a) (a1 : a < 4294967296) (b0 : 0 <= b) (b1 : b < 4294967296) (w : World) (hw : Hid (Mx w mb rb)) : Calls prog 92 #[.pointer (some ⟨mb, 0, none⟩), .int .i64 a, .int .i64 b] w fun o w' => BoolR o /\ w' = w := by
 have RG := hide1 (fun i => k_reg mb rb i w hw)
 have MI := hide1 (fun x h0 h1 => k_minus x h0 h1 w)
 go_enter func92, ntmps92
 exact zq383
set_option maxRecDepth 100000 in
theorem k_multiplies (mb rb : Nat) (a b : Int) (a0 : 0 <= a) (a1 : a < 4294967296) (b0 : 0 <= b) (b1 : b < 4294967296) (w : World) (hw : Hid (Mx w mb rb)) : Calls prog 93 #[.pointer (some ⟨mb, 0, none⟩), .int .i64 a, .int .i64 b] w fun o w' => BoolR o /\ w' = w := by
 have RG := hide1 (fun i => k_reg mb rb i w hw)
 go_enter func93, ntmps93
 exact zq384
set_option maxRecDepth 100000 in
theorem k_forms (mb rb : Nat) (a b : Int) (w : World) (hw : Hid (Mx w mb rb)) : Calls prog 99 #[.pointer (some ⟨mb, 0, none⟩), .int .i64 a, .int .i64 b] w fun o w' => BoolR o /\ w' = w := by
 have RG := hide1 (fun i => k_reg mb rb i w hw)
 go_enter func99, ntmps99
 exact zq384
set_option maxRecDepth 100000 in
theorem k_bitwise (mb rb : Nat) (a b : Int) (a0 : 0 <= a) (a1 : a < 4294967296) (b0 : 0 <= b) (b1 : b < 4294967296) (w : World) (hw : Hid (Mx w mb rb)) : Calls prog 94 #[.pointer (some ⟨mb, 0, none⟩), .int .i64 a, .int .i64 b] w fun o w' => BoolR o /\ w' = w := by
 have RG := hide1 (fun i => k_reg mb rb i w hw)
 have MI := hide1 (fun x h0 h1 => k_minus x h0 h1 w)
 go_enter func94, ntmps94
 exact zq383
set_option maxRecDepth 100000 in
theorem k_le (s : ByteArray) (n : Nat) (h : n + 4 <= s.size) (hs : s.size <= 100000) (w : World) : Calls prog 145 #[.string s, .int .i64 n] w fun o w' => (∃ v : Int, o = .returned (.int .i64 v)) /\ Kept [] w w' := by
 have i0 : n < s.size := by omega
 have i1 : n + 1 < s.size := by omega
 have i2 : n + 2 < s.size := by omega
 have i3 : n + 3 < s.size := by omega
 have w1 : IntKind.i64.wrap ((n : Int) + 1) = (n : Int) + 1 := zq115
 have w2 : IntKind.i64.wrap ((n : Int) + 2) = (n : Int) + 2 := zq115
 have w3 : IntKind.i64.wrap ((n : Int) + 3) = (n : Int) + 3 := zq115
 have j0 : (0 : Int) <= (n : Int) /\ (n : Int) < (s.size : Int) := by omega
 have j1 : (0 : Int) <= (n : Int) + 1 /\ (n : Int) + 1 < (s.size : Int) := by omega
 have j2 : (0 : Int) <= (n : Int) + 2 /\ (n : Int) + 2 < (s.size : Int) := by omega
 have j3 : (0 : Int) <= (n : Int) + 3 /\ (n : Int) + 3 < (s.size : Int) := by omega
 go_enter func145, ntmps145
 go_upto_region 1 with fail
 go_region
 all_goals
  go_wp2_with fail
  go_ret
  exact ⟨⟨_, rfl⟩, (Kept.refl _ _).drew⟩
theorem k_wordAt (mb rb z : Nat) (off : Int) (h0 : 0 <= off) (h1 : off + 4 <= z) (w : World) (hw : Hid (Mz w mb rb z)) : Calls prog 97 #[.pointer (some ⟨mb, 0, none⟩), .int .i64 off] w fun o w' => (∃ v : Int, o = .returned (.int .i64 v)) /\ Kept [] w w' := by
 have P := hide1 (m_Peek mb rb z off 4 (by decide) w hw.out)
 go_enter func97, ntmps97
 go_wp2_with fail
 refine P.out.mono ?_
 rintro o w1 ⟨⟨t, e, q0, q1, rfl⟩, rfl⟩
 have ht : t.size = 4 := by have := q0 (by omega) h0 h1; omega
 have L := hide1 (k_le t 0 (by omega) (by omega) w1)
 clear q0 q1 ht P
 go_wp2_with fail
 refine L.out.mono ?_
 rintro o w2 ⟨⟨v, rfl⟩, hk2⟩
 have HK := hide1 hk2
 clear hk2 L
 go_wp2_with fail
 go_ret
 exact ⟨⟨v, rfl⟩, HK.out⟩
theorem k_minusA (a : Int) (w : World) : Calls prog 98 #[.int .i64 a] w fun o w' => (∃ v : Int, o = .returned (.int .i64 v)) /\ w' = w := by
 go_enter func98, ntmps98
 go_wp2_with fail
 all_goals
  go_ret
  exact ⟨⟨_, rfl⟩, rfl⟩
theorem m_Reg0 (mb rb : Nat) (w : World) (hw : Mx w mb rb) (i : Int) : Calls prog 91 #[.pointer (some ⟨mb, 0, none⟩), .int .i64 i] w fun o w' => IntR o /\ w' = w := k_reg mb rb i w (hide1 hw)
set_option maxRecDepth 100000 in
theorem k_maths (a b : Int) (w : World) : Calls prog 41 #[.int .i64 a, .int .i64 b] w fun o w' => BoolR o /\ Kept [] w w' := by
 go_enter func41, ntmps41
 go_wp2_with fail
 refine (k_built _ _ _ w).mono ?_
 rintro o w1 ⟨rfl | ⟨mb, rb, l1, l2, rfl, hm⟩, hk⟩
 . exact zq385
 have M1 := hide1 hm
 have K1 := hide1 hk
 clear hm hk
 go_wp2_with fail
 refine (m_Run mb rb _ 25 w1 M1.out).mono ?_
 rintro o w2 ⟨⟨v, er, q0, q1, rfl⟩, hm, hk⟩
 have M2 := hide1 hm
 have K2 := hide1 (kept_new K1.out hk l1 l2)
 clear hm hk M1 K1
 have RG := hide1 (fun i => m_Reg0 mb rb w2 M2.out.m i)
 go_wp2_with (first | (go_at_call 91; refine (RG.out _).mono ?_; rintro o wq ⟨⟨v, h0, h1, rfl⟩, hwq⟩; rw [hwq]; clear hwq wq) | (go_at_call 92; refine (k_divides mb rb _ _ (by omega) (by omega) (by omega) (by omega) _ (hide1 M2.out.m)).mono ?_; rintro o wq ⟨⟨vb, rfl⟩, hwq⟩; rw [hwq]; clear hwq wq) | (go_at_call 93; refine (k_multiplies mb rb _ _ (by omega) (by omega) (by omega) (by omega) _ (hide1 M2.out.m)).mono ?_; rintro o wq ⟨⟨vb, rfl⟩, hwq⟩; rw [hwq]; clear hwq wq) | (go_at_call 94; refine (k_bitwise mb rb _ _ (by omega) (by omega) (by omega) (by omega) _ (hide1 M2.out.m)).mono ?_; rintro o wq ⟨⟨vb, rfl⟩, hwq⟩; rw [hwq]; clear hwq wq))
 all_goals
  go_ret
  exact ⟨⟨_, rfl⟩, K2.out⟩
set_option maxRecDepth 100000 in
theorem k_pair (a b : Int) (w : World) : Calls prog 50 #[.int .i64 a, .int .i64 b] w fun o w' => BoolR o /\ Kept [] w w' := by
 go_enter func50, ntmps50
 go_wp2_with fail
 refine (k_built _ _ _ w).mono ?_
 rintro o w1 ⟨rfl | ⟨mb, rb, l1, l2, rfl, hm⟩, hk⟩
 . exact zq385
 have M1 := hide1 hm
 have K1 := hide1 hk
 clear hm hk
 go_wp2_with fail
 refine (m_Run mb rb _ 13 w1 M1.out).mono ?_
 exact zq386
set_option maxRecDepth 100000 in
theorem k_loads (a b : Int) (w : World) : Calls prog 47 #[.int .i64 a, .int .i64 b] w fun o w' => BoolR o /\ Kept [] w w' := by
 go_enter func47, ntmps47
 go_wp2_with fail
 refine (k_built _ _ _ w).mono ?_
 rintro o w1 ⟨rfl | ⟨mb, rb, l1, l2, rfl, hm⟩, hk⟩
 . exact zq385
 have M1 := hide1 hm
 have K1 := hide1 hk
 clear hm hk
 go_wp2_with fail
 refine (m_Run mb rb _ 22 w1 M1.out).mono ?_
 exact zq386
set_option maxRecDepth 100000 in
theorem k_self (k : Int) (w : World) : Calls prog 44 #[.int .i64 k] w fun o w' => BoolR o /\ Kept [] w w' := by
 go_enter func44, ntmps44
 go_wp2_with fail
 refine (k_built _ _ _ w).mono ?_
 rintro o w1 ⟨rfl | ⟨mb, rb, l1, l2, rfl, hm⟩, hk⟩
 . exact zq385
 have M1 := hide1 hm
 have K1 := hide1 hk
 clear hm hk
 go_wp2_with fail
 refine (m_Run mb rb _ 12 w1 M1.out).mono ?_
 exact zq386
set_option maxRecDepth 100000 in
theorem k_branches (a b : Int) (w : World) : Calls prog 48 #[.int .i64 a, .int .i64 b] w fun o w' => BoolR o /\ Kept [] w w' := by
 go_enter func48, ntmps48
 go_wp2_with fail
 refine (k_built _ _ _ w).mono ?_
 rintro o w1 ⟨rfl | ⟨mb, rb, l1, l2, rfl, hm⟩, hk⟩
 . exact zq385
 have M1 := hide1 hm
 have K1 := hide1 hk
 clear hm hk
 go_wp2_with fail
 refine (m_Run mb rb _ 29 w1 M1.out).mono ?_
 rintro o w2 ⟨⟨v, er, q0, q1, rfl⟩, hm, hk⟩
 have M2 := hide1 hm
 have K2 := hide1 (kept_new K1.out hk l1 l2)
 clear hm hk M1 K1
 have RG := hide1 (fun i => m_Reg0 mb rb w2 M2.out.m i)
 go_upto_if 33 with fail
 go_cut [6] (fun p wx => (∃ x : Int, p = .int .i64 x) /\ wx = w2)
 case first =>
  exact zq387
 case rest =>
 obtain ⟨⟨x33, rfl⟩, hwc⟩ := hcut
 rw [hwc]
 clear hwc
 go_upto_if 44 with ((go_at_call 98; refine (k_minusA _ _).mono ?_; rintro o wq ⟨⟨vm, rfl⟩, hwq⟩; rw [hwq]; clear hwq wq))
 go_cut [6] (fun p wx => (∃ x : Int, p = .int .i64 x) /\ wx = w2)
 case first =>
  exact zq387
 case rest =>
 obtain ⟨⟨x44, rfl⟩, hwc⟩ := hcut
 rw [hwc]
 clear hwc
 go_upto_if 51 with fail
 go_cut [6] (fun p wx => (∃ x : Int, p = .int .i64 x) /\ wx = w2)
 case first =>
  exact zq387
 case rest =>
 obtain ⟨⟨x51, rfl⟩, hwc⟩ := hcut
 rw [hwc]
 clear hwc
 go_wp2_with (first | (go_at_call 91; refine (RG.out _).mono ?_; rintro o wq ⟨⟨v, h0, h1, rfl⟩, hwq⟩; rw [hwq]; clear hwq wq) | (go_at_call 98; refine (k_minusA _ _).mono ?_; rintro o wq ⟨⟨vm, rfl⟩, hwq⟩; rw [hwq]; clear hwq wq) | (go_at_call 99; refine (k_forms mb rb _ _ _ (hide1 M2.out.m)).mono ?_; rintro o wq ⟨⟨vb, rfl⟩, hwq⟩; rw [hwq]; clear hwq wq))
 all_goals
  go_ret
  exact ⟨⟨_, rfl⟩, K2.out⟩
set_option maxRecDepth 100000 in
theorem k_alarm (a b : Int) (w : World) : Calls prog 43 #[.int .i64 a, .int .i64 b] w fun o w' => BoolR o /\ Kept [] w w' := by
 go_enter func43, ntmps43
 go_wp2_with fail
 refine (k_built _ _ _ w).mono ?_
 rintro o w1 ⟨rfl | ⟨mb, rb, l1, l2, rfl, hm⟩, hk⟩
 . exact zq385
 have M1 := hide1 hm
 have K1 := hide1 hk
 clear hm hk
 go_wp2_with fail
 refine (m_Run mb rb _ 8 w1 M1.out).mono ?_
 rintro o w2 ⟨⟨v, er, q0, q1, rfl⟩, hm, hk⟩
 have M2 := hide1 hm
 have K2 := hide1 (kept_new K1.out hk l1 l2)
 clear hm hk M1 K1
 go_wp2_with fail
 refine (m_Tick mb rb _ a w2 M2.out).mono ?_
 rintro o w3 ⟨⟨er, rfl⟩, hm, hk⟩
 have M3 := hide1 hm
 have K3 := hide1 (kept_new K2.out hk l1 l2)
 clear hm hk M2 K2
 go_wp2_with fail
 refine (m_Run mb rb _ 12 w3 M3.out).mono ?_
 rintro o w4 ⟨⟨v, er, q0, q1, rfl⟩, hm, hk⟩
 have M4 := hide1 hm
 have K4 := hide1 (kept_new K3.out hk l1 l2)
 clear hm hk M3 K3
 have CR := hide1 (fun i => k_csr mb rb i w4 (hide1 M4.out.m))
 have RG := hide1 (fun i => m_Reg0 mb rb w4 M4.out.m i)
 go_wp2_with (first | (go_at_call 95; refine (CR.out _).mono ?_; rintro o wq ⟨⟨v, h0, h1, rfl⟩, hkq⟩; have KQ := hide1 (K4.out.trans hkq); clear hkq) | (go_at_call 91; refine (RG.out _).mono ?_; rintro o wq ⟨⟨v, h0, h1, rfl⟩, hwq⟩; rw [hwq]; clear hwq wq))
 all_goals
  go_ret
  first | exact ⟨⟨_, rfl⟩, K4.out⟩ | exact ⟨⟨_, rfl⟩, KQ.out⟩
set_option maxRecDepth 100000 in
theorem k_echo (s : ByteArray) (hs : s.size <= 1125899906842624) (w : World) : Calls prog 42 #[.string s] w fun o w' => BoolR o /\ Kept [] w w' := by
 go_enter func42, ntmps42
 go_wp2_with fail
 refine (k_built _ _ _ w).mono ?_
 rintro o w1 ⟨rfl | ⟨mb, rb, l1, l2, rfl, hm⟩, hk⟩
 . exact zq385
 have M1 := hide1 hm
 have K1 := hide1 hk
 clear hm hk
 go_wp2_with fail
 refine (m_Feed mb rb _ s w1 M1.out).mono ?_
 rintro o w2 ⟨⟨nf, ef, f0, f1, f2, rfl⟩, hm, hk⟩
 have M2 := hide1 hm
 have K2 := hide1 (kept_new K1.out hk l1 l2)
 clear hm hk M1 K1
 go_wp2_with fail
 refine (m_Run mb rb _ 64 w2 M2.out).mono ?_
 rintro o w3 ⟨⟨v, er, q0, q1, rfl⟩, hm, hk⟩
 have M3 := hide1 hm
 have K3 := hide1 (kept_new K2.out hk l1 l2)
 clear hm hk M2 K2
 go_wp2_with fail
 refine (m_Drain mb rb _ w3 M3.out).mono ?_
 rintro o w4 ⟨⟨sd, dz, rfl⟩, hm, hk⟩
 have M4 := hide1 hm
 have K4 := hide1 (kept_new K3.out hk l1 l2)
 clear hm hk M3 K3
 have RG := hide1 (fun i => m_Reg0 mb rb w4 M4.out.m i)
 go_wp2_with (first | (go_at_call 91; refine (RG.out _).mono ?_; rintro o wq ⟨⟨v, h0, h1, rfl⟩, hwq⟩; rw [hwq]; clear hwq wq))
 all_goals
  go_ret
  exact ⟨⟨_, rfl⟩, K4.out⟩
set_option maxRecDepth 100000 in
theorem k_amos (a b : Int) (w : World) : Calls prog 49 #[.int .i64 a, .int .i64 b] w fun o w' => BoolR o /\ Kept [] w w' := by
 go_enter func49, ntmps49
 go_wp2_with fail
 refine (k_built _ _ _ w).mono ?_
 rintro o w1 ⟨rfl | ⟨mb, rb, l1, l2, rfl, hm⟩, hk⟩
 . exact zq385
 have M1 := hide1 hm
 have K1 := hide1 hk
 clear hm hk
 go_wp2_with fail
 refine (m_Run mb rb _ 30 w1 M1.out).mono ?_
 rintro o w2 ⟨⟨v, er, q0, q1, rfl⟩, hm, hk⟩
 have M2 := hide1 hm
 have K2 := hide1 (kept_new K1.out hk l1 l2)
 clear hm hk M1 K1
 have RG := hide1 (fun i => m_Reg0 mb rb w2 M2.out.m i)
 by_cases h30 : v = 30
 . subst h30
   go_wp2_with fail
   go_loopw [8] (fun c wr => ∃ i : Nat, i <= 21 /\ c = .int .i64 i /\ wr = w2) (fun c _ => 30 - (intOf c).toNat)
   case atStart => exact ⟨3, by omega, rfl, rfl⟩
   case round =>
    obtain ⟨i, hi, rfl, rfl⟩ := hrel
    by_cases hlt : i < 20
    . have hlt' : decide ((i : Int) < 20) = true := by simp; omega
      go_wp2_with (first | (go_at_call 91; refine (RG.out _).mono ?_; rintro o wq ⟨⟨v, h0, h1, rfl⟩, hwq⟩; rw [hwq]; clear hwq wq))
      all_goals first
       | (go_ret; exact ⟨⟨_, rfl⟩, K2.out⟩)
       | (go_roundw
          case rel => exact ⟨i + 2, by omega, by go_num, by first | rfl | trivial⟩
          case measure => simp [intOf]; omega)
    . have hlt' : decide ((i : Int) < 20) = false := by simp; omega
      go_wp2_with (first | (go_at_call 91; refine (RG.out _).mono ?_; rintro o wq ⟨⟨v, h0, h1, rfl⟩, hwq⟩; rw [hwq]; clear hwq wq) | (go_at_call 98; refine (k_minusA _ _).mono ?_; rintro o wq ⟨⟨vm, rfl⟩, hwq⟩; rw [hwq]; clear hwq wq))
      all_goals
       go_ret
       exact ⟨⟨_, rfl⟩, K2.out⟩
 . have q : (v != 30) = true := by simp [h30]
   have q' : (v == 30) = false := by simp [h30]
   clear h30
   go_wp2_with fail
   go_ret
   exact ⟨⟨_, rfl⟩, K2.out⟩
set_option maxRecDepth 100000 in
theorem k_mapper (s : ByteArray) (va v root low : Int) (w : World) : Calls prog 96 #[.string s, .int .i64 va, .int .i64 v, .int .i64 root, .int .i64 low] w fun e w' => MadeR w w' 16384 e := by
 have N := hide1 (m_New 16384 (by decide) w)
 go_enter func96, ntmps96
 go_wp2_with fail
 refine N.out.mono ?_
 rintro o w1 ⟨rfl, hm1, hk1⟩
 have M1 := hide1 hm1
 have K1 := hide1 hk1
 clear N hm1 hk1
 go_wp2_with fail
 refine (a_Asm' s _).mono ?_
 rintro o w2 ⟨⟨X, er, n, rfl⟩, hk2⟩
 have M2 := hide1 (M1.out.kept hk2)
 have K2 := hide1 (K1.out.trans hk2)
 clear hk2 M1 K1
 by_cases her : er = 0
 . have q : (er != 0) = false := by simp [her]
   have q' : (er == 0) = true := by simp [her]
   clear her
   go_wp2_with fail
   refine (m_Load _ _ _ _ _ w2 M2.out).mono ?_
   rintro o w3 ⟨⟨e2, rfl⟩, hm, hk⟩
   have M3 := hide1 hm
   have K3 := hide1 (kept_new K2.out hk (by omega) (by omega))
   clear hm hk M2 K2
   go_wp2_with fail
   refine (u_Le4' _ _).mono ?_
   rintro o w4 ⟨⟨A0, hA0, rfl⟩, hk⟩
   have M4 := hide1 (M3.out.kept hk)
   have K4 := hide1 (K3.out.trans hk)
   clear hk M3 K3
   go_wp2_with fail
   refine (m_Load _ _ _ _ _ w4 M4.out).mono ?_
   rintro o w5 ⟨⟨e4, rfl⟩, hm, hk⟩
   have M5 := hide1 hm
   have K5 := hide1 (kept_new K4.out hk (by omega) (by omega))
   clear hm hk M4 K4
   go_wp2_with fail
   refine (u_Le4' _ _).mono ?_
   rintro o w6 ⟨⟨A, hA, rfl⟩, hk⟩
   have M6 := hide1 (M5.out.kept hk)
   have K6 := hide1 (K5.out.trans hk)
   clear hk M5 K5
   go_wp2_with fail
   refine (u_Le4' _ _).mono ?_
   rintro o w7 ⟨⟨B, hB, rfl⟩, hk⟩
   have M7 := hide1 (M6.out.kept hk)
   have K7 := hide1 (K6.out.trans hk)
   clear hk M6 K6
   go_wp2_with fail
   refine (u_Le4' _ _).mono ?_
   rintro o w8 ⟨⟨C, hC, rfl⟩, hk⟩
   have M8 := hide1 (M7.out.kept hk)
   have K8 := hide1 (K7.out.trans hk)
   clear hk M7 K7
   go_wp2_with fail
   refine (u_Le4' _ _).mono ?_
   rintro o w9 ⟨⟨D, hD, rfl⟩, hk⟩
   have M9 := hide1 (M8.out.kept hk)
   have K9 := hide1 (K8.out.trans hk)
   clear hk M8 K8
   obtain ⟨c1, g1, z1, hc1⟩ := add_in A B (by omega)
   obtain ⟨c2, g2, z2, hc2⟩ := add_in c1 C (by omega)
   obtain ⟨c3, g3, z3, hc3⟩ := add_in c2 D (by omega)
   clear g1 g2 g3 z1 z2 z3 hA hB hC hD hA0
   go_wp2_with fail
   refine (m_Load _ _ _ _ _ w9 M9.out).mono ?_
   rintro o w10 ⟨⟨e9, rfl⟩, hm, hk⟩
   have M10 := hide1 hm
   have K10 := hide1 (kept_new K9.out hk (by omega) (by omega))
   clear hm hk M9 K9
   go_wp2_with fail
   refine (u_Le4' _ _).mono ?_
   rintro o w11 ⟨⟨F, hF, rfl⟩, hk⟩
   have M11 := hide1 (M10.out.kept hk)
   have K11 := hide1 (K10.out.trans hk)
   clear hk M10 K10
   go_wp2_with fail
   refine (m_Load _ _ _ _ _ w11 M11.out).mono ?_
   rintro o w12 ⟨⟨e11, rfl⟩, hm, hk⟩
   have M12 := hide1 hm
   have K12 := hide1 (kept_new K11.out hk (by omega) (by omega))
   clear hm hk M11 K11
   go_wp2_with fail
   refine (u_Le4' _ _).mono ?_
   rintro o w13 ⟨⟨G, hG, rfl⟩, hk⟩
   have M13 := hide1 (M12.out.kept hk)
   have K13 := hide1 (K12.out.trans hk)
   clear hk M12 K12
   go_wp2_with fail
   refine (m_Load _ _ _ _ _ w13 M13.out).mono ?_
   rintro o w14 ⟨⟨e13, rfl⟩, hm, hk⟩
   have M14 := hide1 hm
   have K14 := hide1 (kept_new K13.out hk (by omega) (by omega))
   clear hm hk M13 K13
   go_wp2_with fail
   go_ret
   exact ⟨.inr ⟨_, _, by omega, by omega, rfl, M14.out⟩, K14.out⟩
 . exact zq367
theorem and_any (a : Int) (c : Nat) (hc : c < 9223372036854775808) : bits .and .i64 a (c : Int) = (((a % 18446744073709551616).toNat &&& c : Nat) : Int) := by
 have hx : bits .and .i64 a (c : Int) = IntKind.i64.wrap (((BitVec.ofInt 64 a &&& BitVec.ofInt 64 (c : Int)).toNat : Nat) : Int) := rfl
 have h1 : (BitVec.ofInt 64 a).toNat = (a % 18446744073709551616).toNat := by simp [BitVec.toNat_ofInt]
 rw [hx, BitVec.toNat_and, h1, bv_nat c hc]
 exact wrap_nat63 _ (Nat.lt_of_le_of_lt Nat.and_le_right hc)
theorem va_any (a : Int) : ∃ n : Nat, n <= 4294967292 /\ n % 4 = 0 /\ bits .and .i64 a 4294967292 = (n : Int) := by
 refine ⟨(a % 18446744073709551616).toNat &&& 4294967292, Nat.and_le_right, ?_, and_any a 4294967292 (by decide)⟩
 have h := bit_andN (a % 18446744073709551616).toNat 4294967292 0
 have h2 := bit_andN (a % 18446744073709551616).toNat 4294967292 1
 simp at h h2
 omega
theorem v_any (a : Int) : ∃ n : Nat, n <= 4294967295 /\ bits .and .i64 a 4294967295 = (n : Int) :=
 ⟨(a % 18446744073709551616).toNat &&& 4294967295, Nat.and_le_right, and_any a 4294967295 (by decide)⟩
theorem va_big (n : Nat) (h : n <= 4294967292) (h4 : n % 4 = 0) : ∃ m : Nat, m <= 4294967292 /\ m % 4 = 0 /\ bits .or .i64 (bits .or .i64 (bits .andNot .i64 (n : Int) 4194303) 12288) (bits .and .i64 (n : Int) 4095) = (m : Int) := by
 have e1 : bits .andNot .i64 (n : Int) 4194303 = ((wout n 4194303 : Nat) : Int) := b_andn n 4194303 (by omega) (by decide)
 have hw := wout_le n 4194303
 have e2 : bits .or .i64 ((wout n 4194303 : Nat) : Int) 12288 = ((wout n 4194303 ||| 12288 : Nat) : Int) := b_or _ 12288 (by omega) (by decide)
 have e3 : bits .and .i64 (n : Int) 4095 = ((n &&& 4095 : Nat) : Int) := b_and n 4095 (by omega) (by decide)
 have l2 : wout n 4194303 ||| 12288 < 4294967296 := nat_or_lt _ _ 32 (by omega) (by decide)
 have l3 : n &&& 4095 <= 4095 := Nat.and_le_right
 have e4 := b_or (wout n 4194303 ||| 12288) (n &&& 4095) (by omega) (by omega)
 have l4 : (wout n 4194303 ||| 12288) ||| (n &&& 4095) < 4294967296 := nat_or_lt _ _ 32 l2 (by omega)
 have m4 : ((wout n 4194303 ||| 12288) ||| (n &&& 4095)) % 4 = 0 := by
  have b0 := bit_orN (wout n 4194303 ||| 12288) (n &&& 4095) 0
  have b1 := bit_orN (wout n 4194303 ||| 12288) (n &&& 4095) 1
  have c0 := bit_andN n 4095 0
  have c1 := bit_andN n 4095 1
  have d0 := bit_orN (wout n 4194303) 12288 0
  have d1 := bit_orN (wout n 4194303) 12288 1
  have f0 := bit_woutN n 4194303 0
  have f1 := bit_woutN n 4194303 1
  simp at b0 b1 c0 c1 d0 d1 f0 f1
  have g0 : n % 2 = 0 := by omega
  have g1 : n / 2 % 2 = 0 := by omega
  rw [g1] at c1
  simp [g0, d0, f0] at b0
  simp [c1, d1, f1] at b1
  omega
 exact ⟨_, by omega, m4, by rw [e1, e2, e3, e4]⟩
end
end Go.Proofs.YtmlgonbhoknoiabGreatDoor
