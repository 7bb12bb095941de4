import Derived.Test.YtmlgonbhoknoiabGreatDoorYAD
set_option maxHeartbeats 8000000
set_option linter.all false
namespace Go.Proofs.YtmlgonbhoknoiabGreatDoor
open Go.RowKit Go.Proofs.Tryz
def hartL (X : XS) : List Value := ((xL 0 X).drop 1).take 37
def tmrL (B : BusS) : List Value := [.int .i64 B.msip, .int .i64 B.time, .int .i64 B.timeh, .int .i64 B.cmp, .int .i64 B.cmph]
def prtL (B : BusS) : List Value := [.int .i64 B.enable, .int .i64 B.scratch, .bool B.lost, .string B.rx, .string B.tx]
theorem tk {P : Program} {ops : Array Oper} {Q : Exit -> Act -> World -> Prop} {md : Region.Mode} {S : World -> Prop} {fuel : Nat} {listed : Array Bool} {a b : Act} {w : World} (i d : Nat) (v : Value) (hS : S w) (h : wpAnyH P md ops Q S fuel (listed.setIfInBounds i true) b w) {o : Oper} (hi : ops[i]? = some o := by rfl) (hd : o.dst = some d := by rfl) (hs : Region.noSelect ops = true := by kernel_rfl) (hf : Region.free md ops listed i = true := by kernel_rfl) (hr : (Region.ready md ops listed).contains i = true := by kernel_rfl) (hQ : ∀ c a w, Q (.panic c) (a.put (some d) v) w -> Q (.panic c) a w := by exact fun _ _ _ h => h) (hy : YieldsIf P ops S o v a := by exact Or.inl ⟨by kernel_rfl, fun w hSw => by go_simp⟩) (hb : a.put (some d) v = b := by simp only [Act.put, List.setIfInBounds_toArray, List.set_cons_zero, List.set_cons_succ]; rfl) : wpAnyH P md ops Q S (fuel + 1) listed a w :=
 wpAnyH_take hi hs hf hr (by rw [hd]; exact hQ) hy hS (by rw [hd, hb]; exact h)
theorem hartL_ok (X : XS) : HartL X (hartL X) := by
 refine ⟨fun k hk => ?_, rfl, rfl, rfl, rfl, rfl, rfl⟩
 rcases k with _ | _ | _ | _ | _ | _ | _ | _ | _ | _ | _ | _ | _ | _ | _ | _ | _ | _ | _ | _ | _ | _ | _ | _ | _ | _ | _ | _ | _ | _ | _ | _ | k
 all_goals first | rfl | omega
theorem XAt.sub {w mb rb X} (h : XAt w mb rb X) (o : Nat) (cs : List Value) (e : ∀ j, j < cs.length -> (xL rb X)[o + j]? = cs[j]?) (hl : o + cs.length <= 71) : w.rangeAt mb o cs := fun j v hv => by
 have hj := (List.getElem?_eq_some_iff.1 hv).1
 rw [h.cell (o + j) (by omega), e j hj, hv]
theorem XAt.hartR {w mb rb X} (h : XAt w mb rb X) : w.rangeAt mb 1 (hartL X) := h.sub 1 _ (fun j hj => by
 have hj : j < 37 := hj
 show _ = (((xL 0 X).drop 1).take 37)[j]?
 rw [List.getElem?_take_of_lt hj, List.getElem?_drop, Nat.add_comm]
 rfl) (by show 1 + 37 <= 71; decide)
theorem XAt.tmrR {w mb rb X} (h : XAt w mb rb X) : w.rangeAt mb 61 (tmrL X.b) := h.sub 61 _ (fun j hj => by
 have hj : j < 5 := hj
 rcases j with _ | _ | _ | _ | _ | j
 all_goals first | rfl | omega) (by show _ + 5 <= 71; decide)
theorem XAt.prtR {w mb rb X} (h : XAt w mb rb X) : w.rangeAt mb 66 (prtL X.b) := h.sub 66 _ (fun j hj => by
 have hj : j < 5 := hj
 rcases j with _ | _ | _ | _ | _ | j
 all_goals first | rfl | omega) (by show _ + 5 <= 71; decide)
def showX (X : XS) : ByteArray := ((hartS X ++ csrS X) ++ timerS X.b) ++ portS X.b
theorem hartS_size (X : XS) : (hartS X).size = 140 := by
 have h1 : (if X.waits = true then (⟨#[119]⟩ : ByteArray) else ⟨#[45]⟩).size = 1 := by cases X.waits <;> rfl
 have h2 : (if X.resd = true then (⟨#[114]⟩ : ByteArray) else ⟨#[45]⟩).size = 1 := by cases X.resd <;> rfl
 unfold hartS
 simp only [ByteArray.size_append, leA_size, regG_size, h1, h2]
theorem csrS_size (X : XS) : (csrS X).size = 92 := by
 unfold csrS
 simp only [ByteArray.size_append, leA_size, wideS_size]
theorem timerS_size (B : BusS) : (timerS B).size = 17 := by
 unfold timerS
 simp only [ByteArray.size_append, leA_size, wideS_size]
theorem portS_size (B : BusS) : (portS B).size = 5 + B.rx.size + B.tx.size := by
 have h1 : (if B.lost = true then (⟨#[33]⟩ : ByteArray) else ⟨#[46]⟩).size = 1 := by cases B.lost <;> rfl
 unfold portS
 simp only [ByteArray.size_append, leA_size, h1]; omega
theorem x_Show (mb rb X) (hX : XOk X) (w) (hw : Hid (XAt w mb rb X)) :
 CK 63 #[.pointer (some ⟨mb, 0, none⟩)] (.string (showX X)) w := by
 have HS := fun W => hide1 (x_hartShow' X (hartL X) (hide1 (hartL_ok X)) W)
 have CS := fun W => hide1 (x_csrShow X W)
 have TS := fun W => hide1 (x_timerShow X.b W)
 have PS := fun W => hide1 (x_portShow X.b hX.b.rx hX.b.tx W)
 have z1 := hartS_size X
 have z2 := csrS_size X
 have z3 := timerS_size X.b
 have z4 := portS_size X.b
 have r4 := hX.b.rx
 have r8 := hX.b.tx
 have LD : Hid (∀ W, XAt W mb rb X -> W.rangeAt mb 1 (hartL X) /\ W.rangeAt mb 38 (csL X) /\ W.rangeAt mb 61 (tmrL X.b) /\ W.rangeAt mb 66 (prtL X.b)) := fun W h => ⟨h.hartR, csL_at h, h.tmrR, h.prtR⟩
 have n1 : (hartL X).length = 37 := rfl
 have n2 : (csL X).length = 23 := rfl
 have n3 : (tmrL X.b).length = 5 := rfl
 have n4 : (prtL X.b).length = 5 := rfl
 have hT : Value.agg #[.int .i64 X.b.msip, .int .i64 X.b.time, .int .i64 X.b.timeh, .int .i64 X.b.cmp, .int .i64 X.b.cmph] = .agg (tmrL X.b).toArray := rfl
 have hP : prtA X.b = .agg (prtL X.b).toArray := rfl
 rw [hT] at TS
 rw [hP] at PS
 clear hT hP
 unfold showX
 obtain ⟨A1, hA1⟩ := zn1 (hartL X)
 obtain ⟨A2, hA2⟩ := zn1 (csL X)
 obtain ⟨A3, hA3⟩ := zn1 (tmrL X.b)
 obtain ⟨A4, hA4⟩ := zn1 (prtL X.b)
 obtain ⟨s1, h1⟩ := zn1 (hartS X)
 obtain ⟨s2, h2⟩ := zn1 (csrS X)
 obtain ⟨s3, h3⟩ := zn1 (timerS X.b)
 obtain ⟨s4, h4⟩ := zn1 (portS X.b)
 simp only [<- hA1, <- hA2, <- hA3, <- hA4, <- h1, <- h2, <- h3, <- h4] at HS CS TS PS LD n1 n2 n3 n4 z1 z2 z3 z4 |-
 clear hA1 hA2 hA3 hA4 h1 h2 h3 h4
 obtain ⟨t2, g2, y2, a2⟩ := add_in s1 s2 (by omega)
 obtain ⟨t3, g3, y3, a3⟩ := add_in t2 s3 (by omega)
 obtain ⟨t4, g4, y4, a4⟩ := add_in t3 s4 (by omega)
 rw [<- g2, <- g3, <- g4]
 clear g2 g3 g4 y2 y3 y4 z1 z2 z3 z4 r4 r8 hX
 have hx0 := hide1 hw.out.drew
 have LD0 := LD.out _ hx0.out
 go_enter func63, ntmps63
 go_upto_region 1 with fail
 refine wp_region_held_drew (S := fun w' => w'.rangeAt mb 1 A1 /\ w'.rangeAt mb 38 A2 /\ w'.rangeAt mb 61 A3 /\ w'.rangeAt mb 66 A4) (by kernel_rfl) LD0 (fun hHeld => ?_)
 refine tk 0 3 (.pointer (some ⟨mb, 0, none⟩)) hHeld ?_
 refine tk 1 4 (.pointer (some ⟨mb, 0, none⟩)) hHeld ?_
 refine tk 2 5 (.pointer (some ⟨mb, 1, none⟩)) hHeld ?_
 refine wpAnyH_take (i := 3) (oi := ⟨some 6, .load 67 (.tmp 5), _, _, _, _⟩) (v := .agg A1.toArray) rfl (by kernel_rfl) (by kernel_rfl) (by kernel_rfl) (fun _ _ _ h => h) (yieldsIf_load_mid (by kernel_rfl) 67 (.tmp 5) rfl mb 1 (by kernel_rfl) A1 _ (fun w h => h.1) Tryz.underlying67 rfl (by rw [info67, n1])) hHeld ?_
 try simp only [Act.put, List.setIfInBounds_toArray, List.set_cons_zero, List.set_cons_succ]
 refine tk 5 8 (.pointer (some ⟨mb, 0, none⟩)) hHeld ?_
 refine tk 6 9 (.pointer (some ⟨mb, 0, none⟩)) hHeld ?_
 refine tk 7 10 (.pointer (some ⟨mb, 38, none⟩)) hHeld ?_
 refine wpAnyH_take (i := 8) (oi := ⟨some 11, .load 71 (.tmp 10), _, _, _, _⟩) (v := .agg A2.toArray) rfl (by kernel_rfl) (by kernel_rfl) (by kernel_rfl) (fun _ _ _ h => h) (yieldsIf_load_mid (by kernel_rfl) 71 (.tmp 10) rfl mb 38 (by kernel_rfl) A2 _ (fun w h => h.2.1) Tryz.underlying71 rfl (by rw [info71, n2])) hHeld ?_
 try simp only [Act.put, List.setIfInBounds_toArray, List.set_cons_zero, List.set_cons_succ]
 refine tk 11 14 (.pointer (some ⟨mb, 0, none⟩)) hHeld ?_
 refine tk 12 15 (.pointer (some ⟨mb, 0, none⟩)) hHeld ?_
 refine tk 13 16 (.pointer (some ⟨mb, 61, none⟩)) hHeld ?_
 refine wpAnyH_take (i := 14) (oi := ⟨some 17, .load 73 (.tmp 16), _, _, _, _⟩) (v := .agg A3.toArray) rfl (by kernel_rfl) (by kernel_rfl) (by kernel_rfl) (fun _ _ _ h => h) (yieldsIf_load_mid (by kernel_rfl) 73 (.tmp 16) rfl mb 61 (by kernel_rfl) A3 _ (fun w h => h.2.2.1) Tryz.underlying73 rfl (by rw [info73, n3])) hHeld ?_
 try simp only [Act.put, List.setIfInBounds_toArray, List.set_cons_zero, List.set_cons_succ]
 refine tk 17 20 (.pointer (some ⟨mb, 0, none⟩)) hHeld ?_
 refine tk 18 21 (.pointer (some ⟨mb, 0, none⟩)) hHeld ?_
 refine tk 19 22 (.pointer (some ⟨mb, 66, none⟩)) hHeld ?_
 refine wpAnyH_take (i := 20) (oi := ⟨some 23, .load 75 (.tmp 22), _, _, _, _⟩) (v := .agg A4.toArray) rfl (by kernel_rfl) (by kernel_rfl) (by kernel_rfl) (fun _ _ _ h => h) (yieldsIf_load_mid (by kernel_rfl) 75 (.tmp 22) rfl mb 66 (by kernel_rfl) A4 _ (fun w h => h.2.2.2) Tryz.underlying75 rfl (by rw [info75, n4])) hHeld ?_
 try simp only [Act.put, List.setIfInBounds_toArray, List.set_cons_zero, List.set_cons_succ]
 refine wpAnyH_ready (rs := [4]) (by kernel_rfl) (by simp) ?_
 refine AllReadyH.cons rfl (fun K hK => ?_) AllReadyH.nil
 go_simp
 refine (HS _).out.mono ?_
 rintro e w1 ⟨rfl, hk1⟩
 have hx1 := hide1 (hx0.out.kept hk1)
 refine hK.out _ _ (LD.out _ hx1.out) (fun hHeld => ?_)
 clear hK K
 try simp only [Act.put, List.setIfInBounds_toArray, List.set_cons_zero, List.set_cons_succ]
 refine wpAnyH_ready (rs := [9]) (by kernel_rfl) (by simp) ?_
 refine AllReadyH.cons rfl (fun K hK => ?_) AllReadyH.nil
 go_simp
 refine (CS _).out.mono ?_
 rintro e w2 ⟨rfl, hk2⟩
 have hx2 := hide1 (hx1.out.kept hk2)
 refine hK.out _ _ (LD.out _ hx2.out) (fun hHeld => ?_)
 clear hK K
 try simp only [Act.put, List.setIfInBounds_toArray, List.set_cons_zero, List.set_cons_succ]
 refine tk 10 13 (.string t2) hHeld ?_
 refine wpAnyH_ready (rs := [15]) (by kernel_rfl) (by simp) ?_
 refine AllReadyH.cons rfl (fun K hK => ?_) AllReadyH.nil
 go_simp
 refine (TS _).out.mono ?_
 rintro e w3 ⟨rfl, hk3⟩
 have hx3 := hide1 (hx2.out.kept hk3)
 refine hK.out _ _ (LD.out _ hx3.out) (fun hHeld => ?_)
 clear hK K
 try simp only [Act.put, List.setIfInBounds_toArray, List.set_cons_zero, List.set_cons_succ]
 refine tk 16 19 (.string t3) hHeld ?_
 refine wpAnyH_ready (rs := [21]) (by kernel_rfl) (by simp) ?_
 refine AllReadyH.cons rfl (fun K hK => ?_) AllReadyH.nil
 go_simp
 refine (PS _).out.mono ?_
 rintro e w4 ⟨rfl, hk4⟩
 have hx4 := hide1 (hx3.out.kept hk4)
 refine hK.out _ _ (LD.out _ hx4.out) (fun hHeld => ?_)
 clear hK K
 try simp only [Act.put, List.setIfInBounds_toArray, List.set_cons_zero, List.set_cons_succ]
 refine tk 22 25 (.string t4) hHeld ?_
 refine tk 23 2 (.string t4) hHeld ?_
 refine wpAnyH_done (by kernel_rfl) ?_ _
 all_goals
  go_wp2_with fail
  go_ret
  exact ⟨rfl, ((((Kept.refl _ _).drew.trans hk1).trans hk2).trans hk3).trans hk4⟩
theorem Below.k {w w' : World} (h : Below w.heap.size w w') : Kept [] w w' := Below.kept h []
section
attribute [local go_sem ↓] Go.wp_at_zero Go.wp_at_succ
def arrG : List UInt8 -> BusS -> BusS
 | [], B => B
 | c :: t, B => arrG t (arrB B (c.toNat : Int))
theorem arr_same (B : BusS) (b : Int) : SameBut5 B (arrB B b) := by
 unfold arrB
 split <;> exact ⟨rfl, rfl, rfl, rfl, rfl, rfl⟩
theorem arr_rx (B : BusS) (b : Int) (h : B.rx.size <= 4) : B.rx.size <= (arrB B b).rx.size /\ (arrB B b).rx.size <= 4 := by
 unfold arrB
 split
 . dsimp only
   rw [ByteArray.size_append, strNumsR_size, leLR_length]; omega
 . exact ⟨Nat.le_refl _, h⟩
theorem arrG_rx : ∀ (l : List UInt8) (B : BusS), B.rx.size <= 4 -> B.rx.size <= (arrG l B).rx.size /\ (arrG l B).rx.size <= 4
 | [], B, h => ⟨Nat.le_refl _, h⟩
 | c :: t, B, h => by
  have h1 := arr_rx B (c.toNat : Int) h
  have h2 := arrG_rx t _ h1.2
  exact ⟨Nat.le_trans h1.1 h2.1, h2.2⟩
theorem arrB_ok {B : BusS} (h : BusOk B) (b : Int) : BusOk (arrB B b) := by
 have h1 := arr_rx B b h.rx
 have h2 := arr_same B b
 have e1 : (arrB B b).enable = B.enable := by unfold arrB; split <;> rfl
 have e2 : (arrB B b).scratch = B.scratch := by unfold arrB; split <;> rfl
 have e3 : (arrB B b).tx = B.tx := by unfold arrB; split <;> rfl
 exact ⟨by rw [h2.ram]; exact h.ram, by rw [h2.msip]; exact h.msip, by rw [h2.time]; exact h.time, by rw [h2.timeh]; exact h.timeh, by rw [h2.cmp]; exact h.cmp, by rw [h2.cmph]; exact h.cmph, by rw [e1]; exact h.enable, by rw [e2]; exact h.scratch, h1.2, by rw [e3]; exact h.tx⟩
theorem arrG_ok : ∀ (l : List UInt8) {B : BusS}, BusOk B -> BusOk (arrG l B)
 | [], _, h => h
 | _ :: t, _, h => arrG_ok t (arrB_ok h _)
theorem x_Feed_no (mb : Nat) (s : ByteArray) (h : 64 < s.size) (w : World) :
 CS 69 #[.pointer (some ⟨mb, 0, none⟩), .string s] (.tuple #[.int .i64 0, .int .i64 1]) w := by
 have q : decide (64 < (s.size : Int)) = true := by simp; omega
 go_enter func69, ntmps69
 exact zq341
set_option maxRecDepth 100000 in
theorem x_Feed (mb rb : Nat) (X : XS) (hr : X.b.rx.size <= 4) (s : ByteArray) (h : s.size <= 64) (w) (hw : Hid (XAt w mb rb X)) :
 CX 69 #[.pointer (some ⟨mb, 0, none⟩), .string s] (.tuple #[.int .i64 (((arrG s.data.toList X.b).rx.size : Int) - X.b.rx.size), .int .i64 0]) [mb] mb rb (X.withB (arrG s.data.toList X.b)) w := by
 have q : decide (64 < (s.size : Int)) = false := by simp; omega
 have c69 := hw.out.c69
 have hT4 := (arrG_rx s.data.toList X.b hr).2
 obtain ⟨T, hT⟩ := zn1 (arrG s.data.toList X.b)
 rw [<- hT] at hT4 |-
 have HT : Hid (T = arrG (s.data.toList.drop 0) X.b) := hide1 hT
 clear hT
 obtain ⟨z, hz⟩ := zn1 (X.b.rx.size)
 rw [<- hz] at hr |-
 have hzs : (X.b.rx.size : Int) = z := by rw [hz]
 have HZ := hide1 hz
 clear hz
 go_enter func69, ntmps69
 go_wp2_with fail
 go_loopw [7] (fun d wr => ∃ (i : Nat) (C : BusS), i <= s.size /\ d = .int .i64 i /\ C.rx.size <= 4 /\ Hid (XAt wr mb rb (X.withB C)) /\ Hid (Kept [mb] w wr) /\ Hid (T = arrG (s.data.toList.drop i) C)) (fun d _ => s.size - (intOf d).toNat)
 case atStart => exact ⟨0, X.b, by omega, rfl, by rw [<- HZ.out]; exact hr, hw, hide1 (Kept.refl _ _), HT⟩
 case round =>
  obtain ⟨i, C, hi, rfl, hC, hb, hk, hg⟩ := hrel
  clear HT c69 hw hzs
  have e69 := hb.out.c69
  simp only [XS.withB] at e69
  by_cases hli : i < s.size
  . have q4 : decide ((i : Int) < (s.size : Int)) = true := by simp; omega
    have hg2 : Hid (T = arrG (s.data.toList.drop (i + 1)) (arrB C (s[i].toNat : Int))) := by
     show T = _
     rw [hg.out, dropb s i hli]; rfl
    clear hg
    have hs5 := hide1 (arr_same C (s[i].toNat : Int))
    have hr4 := (arr_rx C (s[i].toNat : Int) hC).2
    have AR := fun W => hide1 (x_arrived C hC (s[i].toNat : Int) W)
    have d66 := hb.out.c66
    have d67 := hb.out.c67
    have d68 := hb.out.c68
    have hfr := hb.out.fro
    have hml := hb.out.lt
    have d70 := hb.out.c70
    simp only [XS.withB] at d66 d67 d68 d70
    obtain ⟨D, hD⟩ := zn1 (arrB C (s[i].toNat : Int))
    simp only [<- hD] at AR hs5 hr4 hg2
    unfold prtA at AR
    clear hD
    have hb8 : s[i].toNat < 256 := s[i].toNat_lt
    have hwb := wrap_in (s[i].toNat : Int) (by omega)
    go_upto_region 7 with fail
    go_region_with (first | (go_at_call 116; refine (AR _).out.mono ?_; rintro o w1 ⟨rfl, hk1⟩; have hx1 : XAt w1 mb rb (X.withB C) := XAt.kept zq531 hk1; have f66 := hx1.c66; have f67 := hx1.c67; have f68 := hx1.c68; have f69 := hx1.c69; have f70 := hx1.c70; have hfr1 := hx1.fro))
    all_goals
     have hx1 : XAt w1 mb rb (X.withB C) := XAt.kept zq531 hk1
     have hx2 := hide1 (hx1.setPort D hs5.out)
     have hk2 : Kept [mb] w w1 := (hk.out.trans (Kept.mono (Kept.trans (by first | exact (Kept.refl [] _).drew | exact Kept.refl [] _) hk1) (by simp)))
     go_wp2_with fail
     go_roundw
     case rel =>
      refine ⟨i + 1, D, by omega, by go_num, hr4, hx2, ?_, hg2⟩
      exact hide1 (((((hk2.setM _ _).setM _ _).setM _ _).setM _ _).setM _ _)
     case measure => exact zq191
  . have q4 : decide ((i : Int) < (s.size : Int)) = false := by simp; omega
    have hTT : T = C := by
     rw [hg.out, List.drop_eq_nil_of_le (by rw [Array.length_toList]; show s.size <= i; omega)]; rfl
    clear hg
    subst hTT
    go_wp2_with fail
    go_ret2
    exact ⟨rfl, hb.out, hk.out⟩
end
theorem getD_rep (n i : Nat) : (List.replicate n (0 : Nat)).getD i 0 = 0 := by
 rw [List.getD_eq_getElem?_getD, List.getElem?_replicate]; split <;> rfl
theorem busRe_ok (B : BusS) (h : B.ram.length <= 65536) : BusOk (busRe B) := ⟨h, by show 0 < 2; decide, by show 0 < 4294967296; decide, by show 0 < 4294967296; decide, by show 4294967295 < 4294967296; decide, by show 4294967295 < 4294967296; decide, by show 0 < 8; decide, by show 0 < 256; decide, by show 0 <= 4; decide, by show 0 <= 8; decide⟩
theorem rst_inv (X : XS) (h : X.b.ram.length <= 65536) : XInv (rstX X) := by
 refine ⟨⟨busRe_ok X.b h, rfl, ?_, by show 2147483648 < 4294967296; decide, .inr (.inr rfl), ?_, ?_, ?_, ?_, ?_, ?_, ?_, ?_, ?_, ?_, ?_, ?_, ?_, ?_, ?_, ?_, ?_, ?_, ?_, ?_, ?_, ?_, ?_, ?_, ?_⟩, ?_, ?_, ?_, ?_, ?_, ?_, ?_, (by show 2147483648 % 2 = 0; decide), rfl, rfl, Nat.zero_testBit 1, Nat.zero_testBit 1, fun q => absurd rfl q⟩
 . intro i
   show (List.replicate 32 0).getD i 0 < _
   rw [getD_rep]; decide
 all_goals first
  | (show 0 < 4294967296; decide) | (show 0 <= 546; decide) | (show 0 < 8; decide) | (show 0 < 17184063488; decide) | (show 0 / 2048 % 4 ≠ 2; decide) | exact getD_rep 32 0 | (show 0 &&& 546 = 0; decide) | (show 0 &&& 8264106 = 0; decide) | (show 0 &&& 2730 = 0; decide) | (show 0 &&& 46079 = 0; decide) | (show 0 &&& 5 = 0; decide)
theorem new_inv (n : Nat) (h : n <= 65536) : XInv (newX n) := rst_inv _ (by simpa [mac00, bus00] using h)
theorem load_inv {X : XS} (h : XInv X) (off : Nat) (s : ByteArray) : XInv (loadX X off s) := by
 unfold loadX urwX
 have h1 : XInv (setRam X (laidB X.b.ram off s.data.toList)) := h.ram (laidB_length _ _ _)
 split
 . exact h1.unres
 . exact h1
theorem feed_inv {X : XS} (h : XInv X) (l : List UInt8) : XInv (X.withB (arrG l X.b)) := h.withB (arrG_ok l h.ok.b)
theorem tick_inv {X : XS} (h : XInv X) (n : Nat) : XInv { X with b := tickD X.b n } := h.withB (B := tickD X.b n) ⟨h.ok.b.ram, h.ok.b.msip, Nat.mod_lt _ (by decide), Nat.mod_lt _ (by decide), h.ok.b.cmp, h.ok.b.cmph, h.ok.b.enable, h.ok.b.scratch, h.ok.b.rx, h.ok.b.tx⟩
theorem drain_inv {X : XS} (h : XInv X) : XInv { X with b := { X.b with tx := ⟨#[]⟩ } } := h.withB (B := { X.b with tx := ⟨#[]⟩ }) ⟨h.ok.b.ram, h.ok.b.msip, h.ok.b.time, h.ok.b.timeh, h.ok.b.cmp, h.ok.b.cmph, h.ok.b.enable, h.ok.b.scratch, h.ok.b.rx, by show 0 <= 8; decide⟩
theorem byte1 (s : ByteArray) (k : Nat) (h : k < s.size) : s.extract k (k + 1) = strOfNums (leL (s.data[k].toNat : Int) 1) := by
 have e : (s.extract k (k + 1)).data = (strOfNums (leL (s.data[k].toNat : Int) 1)).data := by
  have hs : k < s.data.size := h
  apply Array.ext'
  rw [strOfNums_data]
  simp only [leL, List.nil_append, List.map_cons, List.map_nil]
  have e1 : ∀ b : UInt8, UInt8.ofNat ((b.toNat : Int) / 256 ^ 0 % 256).toNat = b := fun b => by
   have := UInt8.toNat_lt b
   have e0 : ((b.toNat : Int) / 256 ^ 0 % 256 : Int).toNat = b.toNat := by omega
   rw [e0]
   simp
  rw [e1]
  simp only [ByteArray.data_extract, Array.toList_extract]
  rw [List.extract_eq_take_drop, show k + 1 - k = 1 by omega, List.drop_eq_getElem_cons (by simpa using hs)]
  simp
 cases hx : s.extract k (k + 1)
 cases hy : strOfNums (leL (s.data[k].toNat : Int) 1)
 rw [hx, hy] at e
 simp only at e
 rw [e]
theorem feed_eq (s : ByteArray) : ∀ (f k n : Nat) (B : BusS), B.rx.size <= 4 -> k + f = s.size -> feedG s f k n B = (n + ((arrG (s.data.toList.drop k) B).rx.size - B.rx.size), arrG (s.data.toList.drop k) B)
 | 0, k, n, B, hB, h => by
  have hl : s.data.toList.drop k = [] := List.drop_eq_nil_of_le (by simp; exact Nat.le_of_eq h.symm)
  rw [hl]
  simp [feedG, arrG]
 | f + 1, k, n, B, hB, h => by
  have hk : k < s.data.toList.length := by simp; have : s.data.size = s.size := rfl; omega
  have hks : k < s.size := by omega
  rw [List.drop_eq_getElem_cons hk]
  have e1 : s.data.toList[k] = s.data[k] := by simp
  have ar := arr_rx B (s.data[k].toNat : Int) hB
  have b1 := byte1 s k hks
  simp only [feedG, arrG]
  rw [e1]
  by_cases hr : B.rx.size < 4
  . have ea : arrB B (s.data[k].toNat : Int) = { B with rx := B.rx ++ s.extract k (k + 1) } := by
     unfold arrB; rw [if_pos hr, <- b1]
    have hz : (B.rx ++ s.extract k (k + 1)).size = B.rx.size + 1 := by rw [ByteArray.size_append, b1, strOfNums_size]; rfl
    rw [if_pos hr, feed_eq s f (k + 1) (n + 1) _ (by rw [hz]; omega) (by omega), ea]
    have ag := arrG_rx (s.data.toList.drop (k + 1)) { B with rx := B.rx ++ s.extract k (k + 1) } (by rw [hz]; omega)
    rw [hz] at ag |-
    refine Prod.ext ?_ rfl
    dsimp only
    omega
  . have ea : arrB B (s.data[k].toNat : Int) = { B with lost := true } := by unfold arrB; rw [if_neg hr]
    rw [if_neg hr, feed_eq s f (k + 1) n { B with lost := true } hB (by omega), ea]
theorem feed_rel (s : ByteArray) (B : BusS) (hB : B.rx.size <= 4) : ((feedG s s.size 0 0 B).1 : Int) = ((arrG s.data.toList B).rx.size : Int) - B.rx.size /\ (feedG s s.size 0 0 B).2 = arrG s.data.toList B := by
 rw [feed_eq s s.size 0 0 B hB (by omega)]
 have := arrG_rx s.data.toList B hB
 rw [List.drop_zero]
 refine ⟨?_, rfl⟩
 dsimp only
 omega
section
attribute [local go_sem ↓] Go.wp_at_zero Go.wp_at_succ
def loadU (X : XS) (off : Int) (s : ByteArray) : XS := if loadE X.b off s = 0 then loadX X off.toNat s else X
theorem loadE_ok {B : BusS} {off : Int} {s : ByteArray} (h : loadE B off s = 0) : s.size <= 65536 /\ 0 <= off /\ off.toNat + s.size <= B.ram.length := by
 unfold loadE at h
 split at h
 . cases h
 . split at h
   . cases h
   . omega
theorem ux_Load (mb rb : Nat) (X : XS) (hX : XInv X) (off : Int) (s : ByteArray) (w : World) (hw : XAt w mb rb X) :
 CX 23 #[.pointer (some ⟨mb, 0, none⟩), .int .i64 off, .string s] (.int .i64 (loadE X.b off s)) [mb, rb] mb rb (loadU X off s) w := by
 unfold loadU
 by_cases h : loadE X.b off s = 0
 . obtain ⟨h1, h2, h3⟩ := loadE_ok h
   rw [if_pos h, h]
   have := x_Load mb rb X hX.ok off.toNat s h3 w (hide1 hw)
   rw [show ((off.toNat : Nat) : Int) = off by omega] at this
   exact this
 . rw [if_neg h]
   by_cases h1 : 65536 < s.size
   . have e : loadE X.b off s = 1 := by unfold loadE; rw [if_pos h1]
     rw [e]
     exact (x_Load_long mb off s h1 w).mono (fun o w' ⟨a, b⟩ => ⟨a, by rw [b]; exact hw, by rw [b]; exact Kept.refl _ _⟩)
   . have h2 : off < 0 \/ (X.b.ram.length : Int) - s.size < off := by
      unfold loadE at h; rw [if_neg h1] at h
      split at h
      . assumption
      . exact absurd rfl h
     have e : loadE X.b off s = 2 := by unfold loadE; rw [if_neg h1, if_pos h2]
     rw [e]
     exact (x_Load_arg mb rb X hX.ok.b.ram off s (by omega) h2 w (hide1 hw)).mono (fun o w' ⟨a, b⟩ => ⟨a, by rw [b]; exact hw, by rw [b]; exact Kept.refl _ _⟩)
def runU (X : XS) (n : Int) : (Int × Int) × XS := if 0 <= n /\ n <= 4096 then ((((runG n.toNat 0 X).1 : Int), 0), (runG n.toNat 0 X).2) else ((0, 2), X)
theorem ux_Run (mb rb : Nat) (X : XS) (hX : XInv X) (n : Int) (w : World) (hw : XAt w mb rb X) :
 CX 62 #[.pointer (some ⟨mb, 0, none⟩), .int .i64 n] (.tuple #[.int .i64 (runU X n).1.1, .int .i64 (runU X n).1.2]) [mb, rb] mb rb ((runU X n).2) w := by
 unfold runU
 by_cases h : 0 <= n /\ n <= 4096
 . rw [if_pos h]
   have := x_Run mb rb X hX n.toNat (by omega) w (hide1 hw)
   rw [show ((n.toNat : Nat) : Int) = n by omega] at this
   exact this
 . rw [if_neg h]
   exact (x_Run_no mb n (by omega) w).mono (fun o w' ⟨a, b⟩ => ⟨a, by rw [b]; exact hw, by rw [b]; exact Kept.refl _ _⟩)
def tickU (B : BusS) (n : Int) : Int × BusS := if 0 <= n /\ n <= 4294967295 then (0, tickD B n.toNat) else (2, B)
theorem ux_Tick (mb rb : Nat) (X : XS) (hX : XInv X) (n : Int) (w : World) (hw : XAt w mb rb X) :
 CX 68 #[.pointer (some ⟨mb, 0, none⟩), .int .i64 n] (.int .i64 (tickU X.b n).1) [mb, rb] mb rb ({ X with b := (tickU X.b n).2 }) w := by
 unfold tickU
 by_cases h : 0 <= n /\ n <= 4294967295
 . rw [if_pos h]
   have := x_Tick mb rb X hX.ok n.toNat (by omega) w (hide1 hw)
   rw [show ((n.toNat : Nat) : Int) = n by omega] at this
   exact this.mono (fun o w' ⟨a, b, c⟩ => ⟨a, b, c.mono (by simp)⟩)
 . rw [if_neg h]
   exact (x_Tick_no mb n (by omega) w).mono (fun o w' ⟨a, b⟩ => ⟨a, by rw [b]; exact hw, by rw [b]; exact Kept.refl _ _⟩)
def feedU (X : XS) (s : ByteArray) : (Int × Int) × XS := if s.size <= 64 then ((((arrG s.data.toList X.b).rx.size : Int) - X.b.rx.size, 0), X.withB (arrG s.data.toList X.b)) else ((0, 1), X)
theorem ux_Feed (mb rb : Nat) (X : XS) (hX : XInv X) (s : ByteArray) (w : World) (hw : XAt w mb rb X) :
 CX 69 #[.pointer (some ⟨mb, 0, none⟩), .string s] (.tuple #[.int .i64 (feedU X s).1.1, .int .i64 (feedU X s).1.2]) [mb, rb] mb rb ((feedU X s).2) w := by
 unfold feedU
 by_cases h : s.size <= 64
 . rw [if_pos h]
   exact (x_Feed mb rb X hX.ok.b.rx s h w (hide1 hw)).mono (fun o w' ⟨a, b, c⟩ => ⟨a, b, c.mono (by simp)⟩)
 . rw [if_neg h]
   exact (x_Feed_no mb s (by omega) w).mono (fun o w' ⟨a, b⟩ => ⟨a, by rw [b]; exact hw, by rw [b]; exact Kept.refl _ _⟩)
theorem ux_Peek (mb rb : Nat) (X : XS) (hX : XInv X) (off n : Int) (hn : n <= 9223372036854775807) (w : World) (hw : XAt w mb rb X) :
 ∃ (t : ByteArray) (e : Int), (CS 111 #[.pointer (some ⟨mb, 0, none⟩), .int .i64 off, .int .i64 n] (.tuple #[.string t, .int .i64 e]) w) /\ ((n < 0 \/ off < 0 \/ (X.b.ram.length : Int) - n < off) /\ t = ⟨#[]⟩ /\ e = 2 \/ (0 <= n /\ 0 <= off /\ off.toNat + n.toNat <= X.b.ram.length) /\ t = pkB X.b.ram off.toNat n.toNat /\ e = 0) := by
 by_cases h : n < 0 \/ off < 0 \/ (X.b.ram.length : Int) - n < off
 . exact ⟨_, _, x_Peek_no mb rb X hX.ok off n hn h w (hide1 hw), .inl ⟨h, rfl, rfl⟩⟩
 . have := x_Peek mb rb X hX.ok off.toNat n.toNat (by omega) w (hide1 hw)
   rw [show ((n.toNat : Nat) : Int) = n by omega, show ((off.toNat : Nat) : Int) = off by omega] at this
   exact ⟨_, _, this, .inr ⟨by omega, rfl, rfl⟩⟩
def regU (x : List Nat) (i : Int) : Int × Int := if 0 <= i /\ i < 32 then ((x.getD i.toNat 0 : Nat), 0) else (0, 2)
theorem ux_Reg (mb rb : Nat) (X : XS) (i : Int) (w : World) (hw : XAt w mb rb X) :
 CS 25 #[.pointer (some ⟨mb, 0, none⟩), .int .i64 i] (.tuple #[.int .i64 (regU X.x i).1, .int .i64 (regU X.x i).2]) w := by
 unfold regU
 by_cases h : 0 <= i /\ i < 32
 . rw [if_pos h]
   have := x_Reg mb rb X i.toNat (by omega) w (hide1 hw)
   rw [show ((i.toNat : Nat) : Int) = i by omega] at this
   exact this
 . rw [if_neg h]
   exact x_Reg_no mb rb X i (by omega) w (hide1 hw)
def Mx (w : World) (mb rb : Nat) : Prop := ∃ X, XAt w mb rb X /\ XInv X
theorem Mx.lt {w : World} {mb rb : Nat} (h : Mx w mb rb) : mb < w.heap.size /\ rb < w.heap.size := by
 obtain ⟨X, h1, h2⟩ := h
 exact ⟨h1.lt, h1.rlt⟩
theorem Mx.kept {w w' : World} {mb rb : Nat} (h : Mx w mb rb) (hk : Kept [] w w') : Mx w' mb rb := by
 obtain ⟨X, h1, h2⟩ := h
 exact ⟨X, h1.kept hk, h2⟩
theorem Mx.more {w w' : World} {mb rb : Nat} {G : List Nat} (h : Mx w mb rb) (hk : Kept G w w') (h1 : mb ∉ G) (h2 : rb ∉ G) : Mx w' mb rb := by
 obtain ⟨X, a, b⟩ := h
 exact ⟨X, XAt.more a hk h1 h2, b⟩
def IntR (e : Ending) : Prop := ∃ v : Int, 0 <= v /\ v < 4294967296 /\ e = .returned (.int .i64 v)
def BoolR (e : Ending) : Prop := ∃ r, e = .returned (.bool r)
def Mz (w : World) (mb rb z : Nat) : Prop := ∃ X, XAt w mb rb X /\ XInv X /\ X.b.ram.length = z
theorem Mz.m {w : World} {mb rb z : Nat} (h : Mz w mb rb z) : Mx w mb rb := by
 obtain ⟨X, a, b, c⟩ := h; exact ⟨X, a, b⟩
theorem Mz.le {w : World} {mb rb z : Nat} (h : Mz w mb rb z) : z <= 65536 := by
 obtain ⟨X, a, b, c⟩ := h; rw [<- c]; exact b.ok.b.ram
theorem Mx.z {w : World} {mb rb : Nat} (h : Mx w mb rb) : ∃ z, Mz w mb rb z := by
 obtain ⟨X, a, b⟩ := h; exact ⟨_, X, a, b, rfl⟩
theorem Mz.kept {w w' : World} {mb rb z : Nat} (h : Mz w mb rb z) (hk : Kept [] w w') : Mz w' mb rb z := by
 obtain ⟨X, a, b, c⟩ := h; exact ⟨X, a.kept hk, b, c⟩
theorem Mz.more {w w' : World} {mb rb z : Nat} {G : List Nat} (h : Mz w mb rb z) (hk : Kept G w w') (h1 : mb ∉ G) (h2 : rb ∉ G) : Mz w' mb rb z := by
 obtain ⟨X, a, b, c⟩ := h; exact ⟨X, XAt.more a hk h1 h2, b, c⟩
theorem m_Size (mb rb z : Nat) (w : World) (hw : Mz w mb rb z) : CS 110 #[.pointer (some ⟨mb, 0, none⟩)] (.int .i64 z) w := by
 obtain ⟨X, h1, h2, h3⟩ := hw
 rw [<- h3]
 exact x_Size mb rb X w (hide1 h1)
theorem pkB_size (r : List UInt8) (off n : Nat) (h : off + n <= r.length) : (pkB r off n).size = n := by
 unfold pkB; rw [strOfNums_size]; simp; omega
theorem m_Peek (mb rb z : Nat) (off n : Int) (hn : n <= 9223372036854775807) (w : World) (hw : Mz w mb rb z) :
 Calls prog 111 #[.pointer (some ⟨mb, 0, none⟩), .int .i64 off, .int .i64 n] w fun o w' => (∃ (t : ByteArray) (e : Int), (0 <= n -> 0 <= off -> off + n <= z -> (t.size : Int) = n) /\ t.size <= 65536 /\ o = .returned (.tuple #[.string t, .int .i64 e])) /\ w' = w := by
 obtain ⟨X, h1, h2, h3⟩ := hw
 obtain ⟨t, e, hc, hh⟩ := ux_Peek mb rb X h2 off n hn w h1
 refine hc.mono (fun o w' ⟨a, b⟩ => ⟨⟨t, e, ?_, ?_, a⟩, b⟩)
 . intro q1 q2 q3
   rcases hh with ⟨p, rfl, _⟩ | ⟨p, rfl, _⟩
   . omega
   . rw [pkB_size _ _ _ p.2.2]; omega
 . have := h2.ok.b.ram
   rcases hh with ⟨p, rfl, _⟩ | ⟨p, rfl, _⟩
   . show (0 : Nat) <= _; omega
   . rw [pkB_size _ _ _ p.2.2]; omega
theorem m_Show (mb rb : Nat) (w : World) (hw : Mx w mb rb) : Calls prog 63 #[.pointer (some ⟨mb, 0, none⟩)] w fun o w' => (∃ s : ByteArray, 200 <= s.size /\ s.size <= 300 /\ o = .returned (.string s)) /\ Kept [] w w' := by
 obtain ⟨X, h1, h2⟩ := hw
 refine (x_Show mb rb X h2.ok w (hide1 h1)).mono (fun o w' ⟨a, b⟩ => ⟨⟨_, ?_, ?_, a⟩, b⟩)
 all_goals
  have q1 := h2.ok.b.rx
  have q2 := h2.ok.b.tx
  unfold showX
  rw [ByteArray.size_append, ByteArray.size_append, ByteArray.size_append, hartS_size, csrS_size, timerS_size, portS_size]
  omega
theorem m_Load (mb rb z : Nat) (off : Int) (s : ByteArray) (w : World) (hw : Mz w mb rb z) :
 Calls prog 23 #[.pointer (some ⟨mb, 0, none⟩), .int .i64 off, .string s] w fun o w' => (∃ e : Int, o = .returned (.int .i64 e)) /\ Mz w' mb rb z /\ Kept [mb, rb] w w' := by
 obtain ⟨X, h1, h2, h3⟩ := hw
 refine (ux_Load mb rb X h2 off s w h1).mono (fun o w' ⟨a, b, c⟩ => ⟨⟨_, a⟩, ⟨_, b, ?_, ?_⟩, c⟩)
 . unfold loadU; split
   . exact load_inv h2 _ _
   . exact h2
 . unfold loadU; split
   . unfold loadX urwX setRam unresX
     split <;> (dsimp only; rw [laidB_length, h3])
   . exact h3
theorem m_Flush (mb : Nat) (w : World) : CS 61 #[.pointer (some ⟨mb, 0, none⟩)] (.tuple #[]) w := x_Flush mb w
theorem m_Drain (mb rb z : Nat) (w : World) (hw : Mz w mb rb z) : Calls prog 70 #[.pointer (some ⟨mb, 0, none⟩)] w fun o w' => (∃ s : ByteArray, s.size <= 8 /\ o = .returned (.string s)) /\ Mz w' mb rb z /\ Kept [mb, rb] w w' := by
 obtain ⟨X, h1, h2, h3⟩ := hw
 exact (x_Drain mb rb X w (hide1 h1)).mono (fun o w' ⟨a, b, c⟩ => ⟨⟨_, h2.ok.b.tx, a⟩, ⟨_, b, drain_inv h2, h3⟩, c.mono (by simp)⟩)
theorem m_Tick (mb rb z : Nat) (n : Int) (w : World) (hw : Mz w mb rb z) : Calls prog 68 #[.pointer (some ⟨mb, 0, none⟩), .int .i64 n] w fun o w' => (∃ e : Int, o = .returned (.int .i64 e)) /\ Mz w' mb rb z /\ Kept [mb, rb] w w' := by
 obtain ⟨X, h1, h2, h3⟩ := hw
 refine (ux_Tick mb rb X h2 n w h1).mono (fun o w' ⟨a, b, c⟩ => ⟨⟨_, a⟩, ⟨_, b, ?_, ?_⟩, c⟩)
 . unfold tickU; split
   . exact tick_inv h2 _
   . exact h2
 . unfold tickU; split <;> exact h3
theorem arrB_ram (B : BusS) (b : Int) : (arrB B b).ram = B.ram := by unfold arrB; split <;> rfl
theorem arrG_ram : ∀ (l : List UInt8) (B : BusS), (arrG l B).ram = B.ram
 | [], B => rfl
 | c :: t, B => (arrG_ram t _).trans (arrB_ram B _)
theorem m_Feed (mb rb z : Nat) (s : ByteArray) (w : World) (hw : Mz w mb rb z) : Calls prog 69 #[.pointer (some ⟨mb, 0, none⟩), .string s] w fun o w' => (∃ v er : Int, 0 <= v /\ v <= 4 /\ v <= s.size /\ o = .returned (.tuple #[.int .i64 v, .int .i64 er])) /\ Mz w' mb rb z /\ Kept [mb, rb] w w' := by
 obtain ⟨X, h1, h2, h3⟩ := hw
 have hr := arrG_rx s.data.toList X.b h2.ok.b.rx
 have hf := feed_rel s X.b h2.ok.b.rx
 have hc : (feedG s s.size 0 0 X.b).1 <= s.size := by
  have key : ∀ (f i n : Nat) (B : BusS), (feedG s f i n B).1 <= n + f := by
   intro f
   induction f with
   | zero => intro i n B; simp [feedG]
   | succ f ih =>
    intro i n B
    simp only [feedG]
    split
    . have := ih (i + 1) (n + 1) { B with rx := B.rx ++ s.extract i (i + 1) }; omega
    . have := ih (i + 1) n { B with lost := true }; omega
  have := key s.size 0 0 X.b; omega
 refine (ux_Feed mb rb X h2 s w h1).mono (fun o w' ⟨a, b, c⟩ => ⟨⟨_, _, ?_, ?_, ?_, a⟩, ⟨_, b, ?_, ?_⟩, c⟩)
 . exact zq342
 . exact zq342
 . exact zq342
 . unfold feedU; split
   . exact feed_inv h2 _
   . exact h2
 . unfold feedU; split
   . show (arrG s.data.toList X.b).ram.length = z; rw [arrG_ram]; exact h3
   . exact h3
theorem m_Reset (mb rb z : Nat) (w : World) (hw : Mz w mb rb z) : Calls prog 35 #[.pointer (some ⟨mb, 0, none⟩)] w fun o w' => o = .returned (.tuple #[]) /\ Mz w' mb rb z /\ Kept [mb, rb] w w' := by
 obtain ⟨X, h1, h2, h3⟩ := hw
 exact (x_Reset mb rb X w (hide1 h1)).mono (fun o w' ⟨a, b, c⟩ => ⟨a, ⟨_, b, rst_inv X h2.ok.b.ram, h3⟩, c.mono (by simp)⟩)
theorem m_Copy (mb rb z : Nat) (w : World) (hw : Mz w mb rb z) : Calls prog 29 #[.pointer (some ⟨mb, 0, none⟩)] w fun o w' => o = .returned (.pointer (some ⟨w.heap.size, 0, none⟩)) /\ Mz w' w.heap.size (w.heap.size + 1) z /\ Kept [] w w' := by
 obtain ⟨X, h1, h2, h3⟩ := hw
 exact (x_Copy mb rb X h2.ok.b.ram w (hide1 h1)).mono (fun o w' ⟨a, b, c⟩ => ⟨a, ⟨X, b, h2, h3⟩, c⟩)
theorem m_New (n : Nat) (hn : n <= 65536) (w : World) : Calls prog 22 #[.int .i64 n] w fun o w' => o = .returned (.tuple #[.pointer (some ⟨w.heap.size + 1, 0, none⟩), .int .i64 0]) /\ Mz w' (w.heap.size + 1) w.heap.size n /\ Kept [] w w' :=
 (x_New n hn w).mono (fun o w' ⟨a, b, c⟩ => ⟨a, ⟨_, b, new_inv n hn, by simp [newX, rstX, mac00, bus00, busRe]⟩, c⟩)
theorem fetch_len (B : BusS) (C : CsrS) (pc : Nat) : (fetchD B C pc).2.ram.length = B.ram.length := by
 unfold fetchD
 have h1 := half_len B C pc
 have h2 := half_len (halfD B C pc).2 C ((pc + 2) % 4294967296)
 split
 . split
   . split
     . exact h2.trans h1
     . exact h2.trans h1
   . exact h1
 . exact h1
theorem setXR_b (Y : XS) (d u : Nat) : (setXR Y d u).b = Y.b := by unfold setXR; split <;> rfl
theorem cro_len (X : XS) (N : NI) (v : Nat) : (croX X N v).2.b.ram.length = X.b.ram.length := by
 unfold croX
 split
 . rw [setXR_b]
 split
 . rfl
 split
 . unfold ldX
   have h := reach_len X.b (xC X) (vaD X N) (nD N.op) 1
   generalize reachD X.b (xC X) (vaD X N) (nD N.op) 1 = S at h
   unfold ldF; split
   . rw [setXR_b]; exact (load_len _ _).trans h
   . exact h
 split
 . unfold stX
   have h := reach_len X.b (xC X) (vaD X N) (nD N.op) 2
   generalize reachD X.b (xC X) (vaD X N) (nD N.op) 2 = S at h
   unfold stF; split
   . exact (store_len _ _ _).trans h
   . exact h
 split
 . unfold atX
   split
   . have h := wordAt_len X.b (xC X) (X.x.getD N.rs1 0) (kD N.op)
     generalize wordAtD X.b (xC X) (X.x.getD N.rs1 0) (kD N.op) = T at h
     unfold atF
     split
     . unfold atG lrX scX amoX unresX
       dsimp only
       split
       . rw [setXR_b]; exact h
       . split
         . rw [setXR_b]
           cases scB (X.withB T.2) T.1.1
           . exact (stN_length _ _ _ _).trans h
           . exact h
         . rw [setXR_b]; exact (stN_length _ _ _ _).trans h
     . exact h
   . rfl
 split
 . rfl
 split
 . rfl
 split
 . unfold ccrX
   dsimp only
   split
   . rw [wcs_keep, setXR_b]
   . rw [setXR_b]
 split
 . unfold prvX mrtX srtX unresX
   dsimp only
   split
   . rfl
   . split
     . rfl
     . split <;> rfl
 . rfl
theorem ins_len (X : XS) : (insX X).2.b.ram.length = X.b.ram.length := by
 unfold insX
 have h := fetch_len X.b (xC X) X.pc
 generalize fetchD X.b (xC X) X.pc = T at h
 split
 . split
   . unfold insR
     have := cro_len (X.withB T.2) (niOf (decodeD (T.1.w : Int)).1) T.1.w
     split
     . exact this.trans h
     . exact this.trans h
   . exact h
 . exact h
theorem step_len (X : XS) : (stepX X).2.b.ram.length = X.b.ram.length := by
 show (actX X).2.b.ram.length = _
 have ht : ∀ (Y : XS) (a b : Nat), (teX Y a b).b = Y.b := fun Y a b => by unfold teX tsX tmX; split <;> rfl
 have hi : ∀ (Y : XS) (a : Nat), (tiX Y a).b = Y.b := fun Y a => by unfold tiX tsX tmX; split <;> rfl
 have h := ins_len (wakX X)
 unfold actX
 split
 . rfl
 . split
   . unfold actE
     split
     . exact h
     . rw [ht]; exact h
   . rw [hi]; rfl
theorem run_len2 : ∀ (n r : Nat) (X : XS), (runG n r X).2.b.ram.length = X.b.ram.length
 | 0, _, _ => rfl
 | n + 1, r, X => (run_len2 n _ _).trans (step_len X)
theorem run_cnt : ∀ (n r : Nat) (X : XS), (runG n r X).1 <= r + n
 | 0, _, _ => Nat.le_refl _
 | n + 1, r, X => by
  have := run_cnt n (if (stepX X).1.1 = 0 then r + 1 else r) (stepX X).2
  refine Nat.le_trans (show (runG (n + 1) r X).1 <= _ from this) ?_
  split <;> omega
theorem step_in (X : XS) (h : XInv X) : 0 <= (stepX X).1.1 /\ (stepX X).1.1 <= 3 /\ -1 <= (stepX X).1.2 /\ (stepX X).1.2 < 16 := by
 have h1 := (act_inv h).2
 refine ⟨?_, ?_, h1.1, h1.2⟩
 all_goals
  show _
  unfold stepX actX
  dsimp only
  split
  . dsimp only; decide
  . split
    . unfold actE
      split
      . dsimp only; decide
      . dsimp only; decide
    . dsimp only; decide
theorem m_Step (mb rb z : Nat) (w : World) (hw : Mz w mb rb z) : Calls prog 24 #[.pointer (some ⟨mb, 0, none⟩)] w fun o w' => (∃ k c : Int, 0 <= k /\ k <= 3 /\ -1 <= c /\ c < 16 /\ o = .returned (.agg #[.int .i64 k, .int .i64 c])) /\ Mz w' mb rb z /\ Kept [mb, rb] w w' := by
 obtain ⟨X, h1, h2, h3⟩ := hw
 have hs := step_in X h2
 exact (x_Step mb rb X h2 w (hide1 h1)).mono (fun o w' ⟨a, b, c⟩ => ⟨⟨_, _, hs.1, hs.2.1, hs.2.2.1, hs.2.2.2, a⟩, ⟨_, b, step_inv h2, (step_len X).trans h3⟩, c⟩)
theorem m_Run (mb rb z : Nat) (n : Int) (w : World) (hw : Mz w mb rb z) : Calls prog 62 #[.pointer (some ⟨mb, 0, none⟩), .int .i64 n] w fun o w' => (∃ v er : Int, 0 <= v /\ v <= 4096 /\ o = .returned (.tuple #[.int .i64 v, .int .i64 er])) /\ Mz w' mb rb z /\ Kept [mb, rb] w w' := by
 obtain ⟨X, h1, h2, h3⟩ := hw
 have hc := run_cnt n.toNat 0 X
 refine (ux_Run mb rb X h2 n w h1).mono (fun o w' ⟨a, b, c⟩ => ⟨⟨_, _, ?_, ?_, a⟩, ⟨_, b, ?_, ?_⟩, c⟩)
 . unfold runU; split
   . dsimp only; omega
   . dsimp only; decide
 . unfold runU; split
   . dsimp only; omega
   . dsimp only; decide
 . unfold runU; split
   . exact run_inv _ _ X h2
   . exact h2
 . unfold runU; split
   . exact (run_len2 _ _ X).trans h3
   . exact h3
theorem k_regV (mb rb : Nat) (X : XS) (i : Int) (v : Int) (hv : (regU X.x i).1 = v) (w) (hw : Hid (XAt w mb rb X)) : CS 91 #[.pointer (some ⟨mb, 0, none⟩), .int .i64 i] (.int .i64 v) w := by
 have R := hide1 (ux_Reg mb rb X i w hw.out)
 rw [hv] at R
 go_enter func91, ntmps91
 go_wp2_with fail
 refine R.out.mono ?_
 exact zq343
theorem k_reg (mb rb : Nat) (i : Int) (w : World) (hw : Hid (Mx w mb rb)) : Calls prog 91 #[.pointer (some ⟨mb, 0, none⟩), .int .i64 i] w fun o w' => IntR o /\ w' = w := by
 obtain ⟨X, h1, h2⟩ := hw.out
 refine (k_regV mb rb X i _ rfl w (hide1 h1)).mono (fun o w' h => ⟨⟨_, ?_, ?_, h.1⟩, h.2⟩)
 all_goals
  have := h2.ok.xr i.toNat
  unfold regU
  split
  . dsimp only; omega
  . dsimp only; omega
theorem k_csrV (mb rb X) (hX : XOk X) (i : Int) (v : Nat) (hv : (xcsrE X i).1 = v) (w) (hw : Hid (XAt w mb rb X)) : CK 95 #[.pointer (some ⟨mb, 0, none⟩), .int .i64 i] (.int .i64 v) w := by
 have R := hide1 (x_Csr mb rb X hX i w hw)
 rw [hv] at R
 obtain ⟨e, he⟩ := zn1 ((xcsrE X i).2)
 rw [<- he] at R
 clear he hv hX
 go_enter func95, ntmps95
 go_wp2_with fail
 refine R.out.mono ?_
 rintro o w1 ⟨rfl, hk⟩
 have HK := hide1 hk
 clear hk
 go_wp2_with fail
 go_ret
 exact ⟨rfl, HK.out⟩
theorem k_csr (mb rb : Nat) (i : Int) (w : World) (hw : Hid (Mx w mb rb)) : Calls prog 95 #[.pointer (some ⟨mb, 0, none⟩), .int .i64 i] w fun o w' => IntR o /\ Kept [] w w' := by
 obtain ⟨X, h1, h2⟩ := hw.out
 refine (k_csrV mb rb X h2.ok i _ rfl w (hide1 h1)).mono (fun o w' h => ⟨⟨_, ?_, ?_, h.1⟩, h.2⟩)
 all_goals
  have := rcs_lt X h2.ok i
  unfold xcsrE
  split
  . dsimp only; omega
  . dsimp only; omega
theorem k_ramV (mb rb X) (hX : XOk X) (s : ByteArray) (hs : pkB X.b.ram 0 X.b.ram.length = s) (w) (hw : Hid (XAt w mb rb X)) : CS 64 #[.pointer (some ⟨mb, 0, none⟩)] (.string s) w := by
 have S := hide1 (x_Size mb rb X w hw)
 have P := hide1 (x_Peek mb rb X hX 0 X.b.ram.length (by omega) w hw)
 rw [hs] at P
 obtain ⟨z, hz⟩ := zn1 (X.b.ram.length)
 rw [<- hz] at S P
 clear hz hs hX hw
 go_enter func64, ntmps64
 go_wp2_with fail
 refine S.out.mono ?_
 rintro o w1 ⟨rfl, rfl⟩
 go_wp2_with fail
 refine P.out.mono ?_
 exact zq343
theorem k_ram (mb rb z : Nat) (w : World) (hw : Hid (Mz w mb rb z)) : Calls prog 64 #[.pointer (some ⟨mb, 0, none⟩)] w fun o w' => (∃ s : ByteArray, s.size = z /\ o = .returned (.string s)) /\ w' = w := by
 obtain ⟨X, h1, h2, h3⟩ := hw.out
 exact (k_ramV mb rb X h2.ok _ rfl w (hide1 h1)).mono (fun o w' h => ⟨⟨_, by rw [pkB_size _ _ _ (by omega)]; exact h3, h.1⟩, h.2⟩)
theorem k_minus (a : Int) (h0 : 0 <= a) (h1 : a < 4294967296) (w : World) : CS 98 #[.int .i64 a] (.int .i64 (sgn a)) w := by
 unfold sgn
 by_cases h : 2147483648 <= a
 . have q : decide (2147483648 <= a) = true := by simp [h]
   rw [if_pos h]
   have wr : IntKind.i64.wrap (a - 4294967296) = a - 4294967296 := zq115
   exact zq344
 . have q : decide (2147483648 <= a) = false := by simp; omega
   rw [if_neg h]
   exact zq344
theorem k_pickE (c : Int) (h0 : -9223372036854775808 <= c) (h1 : c <= 9223372036854775807) (n : Nat) (hn : 0 < n) (hn1 : n <= 9223372036854775807) : ∃ j : Nat, j < n /\ ∀ w : World,
 CS 28 #[.int .i64 c, .int .i64 n] (.int .i64 j) w := by
 have hz : ((n : Int) == 0) = false := by simp; omega
 by_cases hc : c < 0
 . have q : decide (c < 0) = true := by simp [hc]
   have w1 : IntKind.i64.wrap (c + 1) = c + 1 := zq115
   have w2 : IntKind.i64.wrap (-(c + 1)) = -(c + 1) := zq115
   have hm : (-(c + 1)).tmod (n : Int) = (-(c + 1)) % (n : Int) := Int.tmod_eq_emod_of_nonneg (by omega)
   have hlt := Int.emod_lt_of_pos (-(c + 1)) (show (0 : Int) < n by omega)
   have hge := Int.emod_nonneg (-(c + 1)) (show (n : Int) ≠ 0 by omega)
   have w3 : IntKind.i64.wrap ((-(c + 1)).tmod (n : Int)) = (-(c + 1)).tmod (n : Int) := wrap_in _ (by rw [hm]; omega)
   obtain ⟨j, hj⟩ : ∃ j : Nat, (j : Int) = (-(c + 1)).tmod (n : Int) := ⟨((-(c + 1)).tmod (n : Int)).toNat, by rw [hm]; omega⟩
   exact zq345
 . have q : decide (c < 0) = false := by simp; omega
   have hm : c.tmod (n : Int) = c % (n : Int) := Int.tmod_eq_emod_of_nonneg (by omega)
   have hlt := Int.emod_lt_of_pos c (show (0 : Int) < n by omega)
   have hge := Int.emod_nonneg c (show (n : Int) ≠ 0 by omega)
   have w3 : IntKind.i64.wrap (c.tmod (n : Int)) = c.tmod (n : Int) := wrap_in _ (by rw [hm]; omega)
   obtain ⟨j, hj⟩ : ∃ j : Nat, (j : Int) = c.tmod (n : Int) := ⟨(c.tmod (n : Int)).toNat, by rw [hm]; omega⟩
   exact zq345
theorem k_pick (c : Int) (h0 : -9223372036854775808 <= c) (h1 : c <= 9223372036854775807) (n : Nat) (hn : 0 < n) (hn1 : n <= 9223372036854775807) (w : World) :
 Calls prog 28 #[.int .i64 c, .int .i64 n] w fun e w' => (∃ j : Nat, j < n /\ e = .returned (.int .i64 j)) /\ w' = w := by
 obtain ⟨j, hj, h⟩ := k_pickE c h0 h1 n hn hn1
 exact (h w).mono (fun e w' h => ⟨⟨j, hj, h.1⟩, h.2⟩)
end
section
open Go.Shelf
def Tryz.laysM171_ren : Go.Shelf.Ren := ⟨fun | 171 => 213 | 243 => 302 | 246 => 354 | 283 => 382 | 284 => 383 | 285 => 384 | 286 => 385 | 129 => 406 | 317 => 405 | 318 => 407 | 319 => 408 | 320 => 409 | 337 => 440 | 338 => 441 | n => n, fun | 3 => 3 | 9 => 9 | 2 => 2 | 4 => 4 | 171 => 273 | 0 => 0 | 53 => 274 | 37 => 64 | 5 => 5 | 173 => 277 | 212 => 283 | 51 => 284 | 20 => 20 | 213 => 285 | 46 => 107 | 232 => 296 | 233 => 297 | n => n, fun | 17 => 0 | 18 => 1 | 19 => 2 | n => n⟩
theorem Tryz.laysM171 : Go.Proofs.LaysM.n171 prog Tryz.laysM171_ren := {
 mixed := by kernel_rfl
 f129 := func406.trans (congrArg some (by kernel_rfl))
 f171 := func213.trans (congrArg some (by kernel_rfl))
 f243 := func302.trans (congrArg some (by kernel_rfl))
 f246 := func354.trans (congrArg some (by kernel_rfl))
 f283 := func382.trans (congrArg some (by kernel_rfl))
 f284 := func383.trans (congrArg some (by kernel_rfl))
 f285 := func384.trans (congrArg some (by kernel_rfl))
 f286 := func385.trans (congrArg some (by kernel_rfl))
 f317 := func405.trans (congrArg some (by kernel_rfl))
 f318 := func407.trans (congrArg some (by kernel_rfl))
 f319 := func408.trans (congrArg some (by kernel_rfl))
 f320 := func409.trans (congrArg some (by kernel_rfl))
 f337 := func440.trans (congrArg some (by kernel_rfl))
 f338 := func441.trans (congrArg some (by kernel_rfl))
 t0 := Tryz.underlying0
 a0 := Tryz.isAgg0
 z0 := Tryz.sizeOf0
 v0 := Tryz.zeroValue0
 t2 := Tryz.underlying2
 a2 := Tryz.isAgg2
 z2 := Tryz.sizeOf2
 v2 := Tryz.zeroValue2
 t3 := Tryz.underlying3
 a3 := Tryz.isAgg3
 z3 := Tryz.sizeOf3
 v3 := Tryz.zeroValue3
 t4 := Tryz.underlying4
 a4 := Tryz.isAgg4
 z4 := Tryz.sizeOf4
 v4 := Tryz.zeroValue4
 t5 := Tryz.underlying5
 a5 := Tryz.isAgg5
 z5 := Tryz.sizeOf5
 v5 := Tryz.zeroValue5
 t9 := Tryz.underlying9
 a9 := Tryz.isAgg9
 z9 := Tryz.sizeOf9
 v9 := Tryz.zeroValue9
 t20 := Tryz.underlying20
 a20 := Tryz.isAgg20
 z20 := Tryz.sizeOf20
 v20 := Tryz.zeroValue20
 t37 := Tryz.underlying64
 a37 := Tryz.isAgg64
 z37 := Tryz.sizeOf64
 v37 := Tryz.zeroValue64
 t46 := Tryz.underlying107
 a46 := Tryz.isAgg107
 z46 := Tryz.sizeOf107
 v46 := Tryz.zeroValue107
 t51 := Tryz.underlying284
 a51 := Tryz.isAgg284
 z51 := Tryz.sizeOf284
 v51 := Tryz.zeroValue284
 t53 := Tryz.underlying274
 a53 := Tryz.isAgg274
 z53 := Tryz.sizeOf274
 v53 := Tryz.zeroValue274
 t171 := Tryz.underlying273
 a171 := Tryz.isAgg273
 z171 := Tryz.sizeOf273
 v171 := Tryz.zeroValue273
 t173 := Tryz.underlying277
 a173 := Tryz.isAgg277
 z173 := Tryz.sizeOf277
 v173 := Tryz.zeroValue277
 t212 := Tryz.underlying283
 a212 := Tryz.isAgg283
 z212 := Tryz.sizeOf283
 v212 := Tryz.zeroValue283
 t213 := Tryz.underlying285
 a213 := Tryz.isAgg285
 z213 := Tryz.sizeOf285
 t232 := Tryz.underlying296
 a232 := Tryz.isAgg296
 z232 := Tryz.sizeOf296
 v232 := Tryz.zeroValue296
 t233 := Tryz.underlying297
 a233 := Tryz.isAgg297
 z233 := Tryz.sizeOf297
 v233 := Tryz.zeroValue297
 g17 := by kernel_rfl
 g18 := by kernel_rfl
 g19 := by kernel_rfl
 i0 := by kernel_rfl
 i2 := by kernel_rfl
 i3 := by kernel_rfl
 i4 := by kernel_rfl
 i5 := by kernel_rfl
 i9 := by kernel_rfl
 i20 := by kernel_rfl
 i37 := by kernel_rfl
 i46 := by kernel_rfl
 i51 := by kernel_rfl
 i53 := by kernel_rfl
 i171 := by kernel_rfl
 i173 := by kernel_rfl
 i212 := by kernel_rfl
 i232 := by kernel_rfl
 i233 := by kernel_rfl
 m17 := by kernel_rfl
 m18 := by kernel_rfl
 m19 := by kernel_rfl }
open Go.RowKit Go.Sort Go.Lib in
theorem Tryz.strconv_Itoa (n : Int) (h0 : -9223372036854775808 <= n) (h1 : n <= 9223372036854775807) (w : World) (htab : Lib.TabIs prog w "internal/strconv.uint64pow10" .u64 Lib.pow10Tab) :
 Calls prog 213 #[.int .i64 n] w fun e w' => e = .returned (.string ⟨(Lib.itoa n).toArray⟩) /\ ∃ k os, w' = grow (w.drewN k) os := Any.strconv_Itoa Tryz.laysM171 n h0 h1 w htab
def Tryz.lays171_ren : Go.Shelf.Ren := ⟨fun | 171 => 213 | 243 => 302 | 246 => 354 | 283 => 382 | 284 => 383 | 285 => 384 | 286 => 385 | 129 => 406 | 317 => 405 | 318 => 407 | 319 => 408 | 320 => 409 | 337 => 440 | 338 => 441 | n => n, fun | 3 => 3 | 9 => 9 | 2 => 2 | 4 => 4 | 171 => 273 | 0 => 0 | 53 => 274 | 37 => 64 | 5 => 5 | 173 => 277 | 212 => 283 | 51 => 284 | 20 => 20 | 213 => 285 | 46 => 107 | 232 => 296 | 233 => 297 | n => n, fun | 17 => 0 | 18 => 1 | 19 => 2 | n => n⟩
theorem Tryz.lays171 : Go.Proofs.Lays.n171 prog Tryz.lays171_ren := {
 mixed := by kernel_rfl
 f129 := func406.trans (congrArg some (by kernel_rfl))
 f171 := func213.trans (congrArg some (by kernel_rfl))
 f243 := func302.trans (congrArg some (by kernel_rfl))
 f246 := func354.trans (congrArg some (by kernel_rfl))
 f283 := func382.trans (congrArg some (by kernel_rfl))
 f284 := func383.trans (congrArg some (by kernel_rfl))
 f285 := func384.trans (congrArg some (by kernel_rfl))
 f286 := func385.trans (congrArg some (by kernel_rfl))
 f317 := func405.trans (congrArg some (by kernel_rfl))
 f318 := func407.trans (congrArg some (by kernel_rfl))
 f319 := func408.trans (congrArg some (by kernel_rfl))
 f320 := func409.trans (congrArg some (by kernel_rfl))
 f337 := func440.trans (congrArg some (by kernel_rfl))
 f338 := func441.trans (congrArg some (by kernel_rfl))
 t0 := Tryz.underlying0
 a0 := Tryz.isAgg0
 z0 := Tryz.sizeOf0
 v0 := Tryz.zeroValue0
 t2 := Tryz.underlying2
 a2 := Tryz.isAgg2
 z2 := Tryz.sizeOf2
 v2 := Tryz.zeroValue2
 t3 := Tryz.underlying3
 a3 := Tryz.isAgg3
 z3 := Tryz.sizeOf3
 v3 := Tryz.zeroValue3
 t4 := Tryz.underlying4
 a4 := Tryz.isAgg4
 z4 := Tryz.sizeOf4
 v4 := Tryz.zeroValue4
 t5 := Tryz.underlying5
 a5 := Tryz.isAgg5
 z5 := Tryz.sizeOf5
 v5 := Tryz.zeroValue5
 t9 := Tryz.underlying9
 a9 := Tryz.isAgg9
 z9 := Tryz.sizeOf9
 v9 := Tryz.zeroValue9
 t20 := Tryz.underlying20
 a20 := Tryz.isAgg20
 z20 := Tryz.sizeOf20
 v20 := Tryz.zeroValue20
 t37 := Tryz.underlying64
 a37 := Tryz.isAgg64
 z37 := Tryz.sizeOf64
 v37 := Tryz.zeroValue64
 t46 := Tryz.underlying107
 a46 := Tryz.isAgg107
 z46 := Tryz.sizeOf107
 v46 := Tryz.zeroValue107
 t51 := Tryz.underlying284
 a51 := Tryz.isAgg284
 z51 := Tryz.sizeOf284
 v51 := Tryz.zeroValue284
 t53 := Tryz.underlying274
 a53 := Tryz.isAgg274
 z53 := Tryz.sizeOf274
 v53 := Tryz.zeroValue274
 t171 := Tryz.underlying273
 a171 := Tryz.isAgg273
 z171 := Tryz.sizeOf273
 v171 := Tryz.zeroValue273
 t173 := Tryz.underlying277
 a173 := Tryz.isAgg277
 z173 := Tryz.sizeOf277
 v173 := Tryz.zeroValue277
 t212 := Tryz.underlying283
 a212 := Tryz.isAgg283
 z212 := Tryz.sizeOf283
 v212 := Tryz.zeroValue283
 t213 := Tryz.underlying285
 a213 := Tryz.isAgg285
 z213 := Tryz.sizeOf285
 t232 := Tryz.underlying296
 a232 := Tryz.isAgg296
 z232 := Tryz.sizeOf296
 v232 := Tryz.zeroValue296
 t233 := Tryz.underlying297
 a233 := Tryz.isAgg297
 z233 := Tryz.sizeOf297
 v233 := Tryz.zeroValue297
 g17 := by kernel_rfl
 g18 := by kernel_rfl
 g19 := by kernel_rfl }
open Go.RowKit Go.Sort Go.Lib in
theorem Tryz.strconv_Itoa_small (i : Nat) (hi : i < 100) (w : World) :
 CS 213 #[.int .i64 i] (.string ⟨(Lib.decDigits i).toArray⟩) w := Any.strconv_Itoa_small Tryz.lays171 i hi w
end
namespace Byt
def regName (n : Nat) : List UInt8 := 120 :: Lib.decDigits n
end Byt
theorem add_str {a b c : ByteArray} (h : a ++ b = c) (hl : a.size + b.size <= 100000) (w : World) : (Op.stringOp .add a b).run prog w = .ok (.string c) w := by
 rw [<- h]; exact run_string_add_sum w a b (by omega)
theorem mk_app (x y : List UInt8) : (⟨x.toArray⟩ : ByteArray) ++ ⟨y.toArray⟩ = ⟨(x ++ y).toArray⟩ := ByteArray.mk_append_mk x y
theorem names_short : ((List.range 100).all fun n => decide ((Lib.decDigits n).length <= 10)) = true := by decide +kernel
theorem a_registerName (n : Nat) (hn : n < 100) (w : World) :
 CS 303 #[.int .i64 n] (Byt.strV (Byt.regName n)) w := by
 have hlen := List.all_eq_true.1 names_short n (by simpa using hn)
 rw [decide_eq_true_eq] at hlen
 obtain ⟨D, hD⟩ := zn1 (⟨(Lib.decDigits n).toArray⟩ : ByteArray)
 obtain ⟨X, hX⟩ := zn1 (⟨(Byt.regName n).toArray⟩ : ByteArray)
 have hadd : ∀ w, (Op.stringOp .add ⟨#[120]⟩ D).run prog w = .ok (.string X) w := fun w => add_str (a := ⟨#[120]⟩) (b := D) (c := X) (by rw [hD, hX]; exact mk_app [120] _) (by rw [hD]; simp [ByteArray.size]; omega) w
 have HX := hide1 hX
 have HD := hide1 hD
 clear hX hD hlen
 go_enter func303, ntmps303
 go_wp2_with fail
 refine (Tryz.strconv_Itoa_small n hn _).mono ?_
 rintro e w' ⟨rfl, rfl⟩
 rw [<- HD.out]
 go_wp2
 go_ret
 exact ⟨by unfold Byt.strV; rw [<- HX.out]; rfl, rfl⟩
def StrsAt (w : World) (b o : Nat) (L : List (List UInt8)) : Prop := ∀ j (h : j < L.length), w.cell? ⟨b, o + j, none⟩ = some (Byt.strV L[j])
theorem StrsAt.below {w w' : World} {b o : Nat} {L : List (List UInt8)} (h : StrsAt w b o L) {n : Nat} (hb : Below n w w') (hn : b < n) : StrsAt w' b o L := fun j hj => by
 rw [hb.cell (p := ⟨b, o + j, none⟩) hn]; exact h j hj
theorem StrsAt.drop {w : World} {b o : Nat} {L : List (List UInt8)} (h : StrsAt w b o L) (k : Nat) : StrsAt w b (o + k) (L.drop k) := fun j hj => by
 have hj' : k + j < L.length := by simp at hj; omega
 have := h (k + j) hj'
 rw [List.getElem_drop, show o + k + j = o + (k + j) by omega]; exact this
theorem StrsAt.of_row {w : World} {base : Nat} {v : Value} {L : List (List UInt8)} (h : w.ownsRow base 9 1 v L.length (L.map Byt.strV)) (hn : v ≠ .slice none 0 0) :
 ∃ b cap, v = .slice (some ⟨b, 0, none⟩) L.length cap /\ base <= b /\ b < w.heap.size /\ StrsAt w b 0 L := by
 rcases h.2 with ⟨hv, _⟩ | ⟨g, cap, cur, rfl, hb, hg, hrest⟩
 . exact absurd hv hn
 . refine ⟨g, cap, rfl, hb, (Array.getElem?_eq_some_iff.1 hg).1, fun j hj => ?_⟩
   rw [Nat.zero_add, h.cellAt j (by omega)]
   rw [List.getElem?_map, List.getElem?_eq_getElem hj]; rfl
theorem a_tokenAt (b o cap : Nat) (L : List (List UInt8)) (_hL : L.length <= 5000) (a : Nat) (ha : a <= 10000) (w : World) (hw : Hid (StrsAt w b o L)) :
 CS 309 #[.slice (some ⟨b, o, none⟩) L.length cap, .int .i64 a] (Byt.strV (L[a]?.getD [])) w := by
 by_cases h : a < L.length
 . have hc := hw.out a h
   rw [List.getElem?_eq_getElem h, Option.getD_some]
   obtain ⟨X, hX⟩ := zn1 (Byt.strV L[a])
   rw [<- hX] at hc |-
   clear hX
   exact zq346
 . rw [List.getElem?_eq_none (by omega)]
   exact zq346
namespace Byt
def regFrom (t : List UInt8) : Nat -> Nat -> Option Nat
 | 0, _ => none
 | f + 1, n => if t = regName n then some n else regFrom t f (n + 1)
def reg (t : List UInt8) : Option Nat := regFrom t 32 0
end Byt
theorem eq_str (s X : ByteArray) (l : List UInt8) (h : X = ⟨l.toArray⟩) : (s.toList == X.toList) = decide (s.data.toList = l) := by
 rw [Lib.toList_data, Lib.toList_data, h, Bool.eq_iff_iff]; simp
theorem a_readRegister (s : ByteArray) (w : World) :
 CS 386 #[.string s] (.tuple #[.int .i64 ((Byt.reg s.data.toList).getD 0 : Nat), .bool (Byt.reg s.data.toList).isSome]) w := by
 obtain ⟨T, hT⟩ := zn1 (Byt.reg s.data.toList)
 rw [<- hT]
 have HT := hide1 hT
 clear hT
 go_enter func386, ntmps386
 go_wp2
 go_loop [4] (fun d => ∃ i : Nat, i <= 32 /\ d = .int .i64 i /\ Hid (T = Byt.regFrom s.data.toList (32 - i) i)) (fun d => 32 - (intOf d).toNat)
 case atStart => exact ⟨0, by omega, rfl, HT⟩
 case round =>
  obtain ⟨i, hi0, rfl, hh⟩ := hrel
  by_cases hi : i < 32
  . obtain ⟨X, hX⟩ := zn1 (⟨(Byt.regName i).toArray⟩ : ByteArray)
    have hX' : Byt.strV (Byt.regName i) = .string X := by rw [hX]; rfl
    have he := eq_str s X _ hX
    have hv : T = if s.data.toList = Byt.regName i then some i else Byt.regFrom s.data.toList (32 - (i + 1)) (i + 1) := by
     rw [hh.out, show 32 - i = (32 - (i + 1)) + 1 by omega]; rfl
    by_cases hc : s.data.toList = Byt.regName i
    . rw [if_pos hc] at hv
      rw [decide_eq_true hc] at he
      have HV := hide1 hv
      have HX := hide1 hX'
      clear hX hX' hv hc hh HT
      go_wp2_with (go_at_call 303; refine (a_registerName i (by omega) _).mono ?_; rintro e w' ⟨rfl, rfl⟩; rw [HX.out])
      exact zq347
    . rw [if_neg hc] at hv
      rw [decide_eq_false hc] at he
      have HV := hide1 hv
      have HX := hide1 hX'
      clear hX hX' hv hc hh HT
      go_wp2_with (go_at_call 303; refine (a_registerName i (by omega) _).mono ?_; rintro e w' ⟨rfl, rfl⟩; rw [HX.out])
      go_round
      case rel => exact ⟨i + 1, by omega, by go_num, HV⟩
      case measure => exact zq191
  . obtain rfl : i = 32 := by omega
    have hT : Hid (T = none) := hh
    clear hh HT
    go_wp2
    go_ret2
    exact zq348
namespace Byt
def nmL (op : Nat) : List UInt8 := (Nm.name op).data.toList
def wrdFrom (t : List UInt8) : Nat -> Nat -> Nat × Nat
 | 0, _ => (0, 0)
 | f + 1, op => if t = nmL op then (op, 4) else if t = 99 :: 46 :: nmL op then (op, 2) else wrdFrom t f (op + 1)
def wrd (t : List UInt8) : Nat × Nat := if t = nmL 71 then (71, 4) else if t = nmL 72 then (72, 2) else wrdFrom t 70 1
end Byt
theorem nm_size : ((List.range 73).all fun n => decide ((Nm.name n).size <= 20)) = true := by decide +kernel
theorem nm_sz (n : Nat) (h : n <= 72) : (Nm.name n).size <= 20 := by
 have := List.all_eq_true.1 nm_size n (by simp; omega)
 rwa [decide_eq_true_eq] at this
theorem mk_list (s : ByteArray) : (⟨s.data.toList.toArray⟩ : ByteArray) = s := by cases s; simp
theorem short_add (n : Nat) (h : n <= 72) (w : World) : (Op.stringOp .add ⟨#[99, 46]⟩ (Nm.name n)).run prog w = .ok (Byt.strV (99 :: 46 :: Byt.nmL n)) w := by
 refine add_str (a := ⟨#[99, 46]⟩) (b := Nm.name n) (c := ⟨(99 :: 46 :: Byt.nmL n).toArray⟩) ?_ (by have := nm_sz n h; have h2 : (⟨#[99, 46]⟩ : ByteArray).size = 2 := rfl; rw [h2]; omega) w
 have h := mk_app [99, 46] (Nm.name n).data.toList
 rw [mk_list] at h
 exact h
theorem a_shortName (n : Nat) (hn : n <= 72) (w : World) :
 CS 214 #[.int .i64 n] (Byt.strV (99 :: 46 :: Byt.nmL n)) w := by
 obtain ⟨D, hD⟩ := zn1 (Nm.name n)
 have hadd := short_add n hn
 rw [<- hD] at hadd
 have HD := hide1 hD
 clear hD
 go_enter func214, ntmps214
 go_wp2_with (go_at_call 212; refine (a_Name n _).mono ?_; rintro e w' ⟨rfl, rfl⟩; rw [<- HD.out])
 exact zq196
theorem eq_nm (s X : ByteArray) : (s.toList == X.toList) = decide (s.data.toList = X.data.toList) := by
 rw [Lib.toList_data, Lib.toList_data, Bool.eq_iff_iff]; simp
theorem a_readWord (s : ByteArray) (w : World) :
 CS 221 #[.string s] (.tuple #[.int .i64 (Byt.wrd s.data.toList).1, .int .i64 (Byt.wrd s.data.toList).2]) w := by
 obtain ⟨T, hT⟩ := zn1 (Byt.wrd s.data.toList)
 rw [<- hT]
 unfold Byt.wrd at hT
 obtain ⟨W1, hW1⟩ := zn1 (Nm.name 71)
 obtain ⟨W2, hW2⟩ := zn1 (Nm.name 72)
 have he1 := eq_nm s W1
 have he2 := eq_nm s W2
 rw [hW1] at he1
 rw [hW2] at he2
 change _ = decide (s.data.toList = Byt.nmL 71) at he1
 change _ = decide (s.data.toList = Byt.nmL 72) at he2
 rw [<- hW1] at he1
 rw [<- hW2] at he2
 have H1 := hide1 hW1
 have H2 := hide1 hW2
 clear hW1 hW2
 by_cases c1 : s.data.toList = Byt.nmL 71
 . rw [if_pos c1] at hT
   rw [decide_eq_true c1] at he1
   subst hT
   clear c1 he2
   go_enter func221, ntmps221
   go_wp2_with (go_at_call 212; refine (a_Name 71 _).mono ?_; rintro e w' ⟨rfl, rfl⟩; rw [<- H1.out])
   exact zq324
 . rw [if_neg c1] at hT
   rw [decide_eq_false c1] at he1
   by_cases c2 : s.data.toList = Byt.nmL 72
   . rw [if_pos c2] at hT
     rw [decide_eq_true c2] at he2
     subst hT
     clear c1 c2
     go_enter func221, ntmps221
     go_wp2_with (go_at_call 212; refine (a_Name _ _).mono ?_; rintro e w' ⟨rfl, rfl⟩; first | rw [<- H1.out] | rw [<- H2.out])
     exact zq324
   . rw [if_neg c2] at hT
     rw [decide_eq_false c2] at he2
     have HT := hide1 hT
     clear c1 c2 hT
     go_enter func221, ntmps221
     go_wp2_with (go_at_call 212; refine (a_Name _ _).mono ?_; rintro e w' ⟨rfl, rfl⟩; first | rw [<- H1.out] | rw [<- H2.out])
     clear he1 he2 H1 H2
     go_loop [4] (fun d => ∃ i : Nat, 1 <= i /\ i <= 71 /\ d = .int .i64 i /\ Hid (T = Byt.wrdFrom s.data.toList (71 - i) i)) (fun d => 71 - (intOf d).toNat)
     case atStart => exact ⟨1, by omega, by omega, rfl, HT⟩
     case round =>
      obtain ⟨i, hi1, hi0, rfl, hh⟩ := hrel
      by_cases hi : i < 71
      . obtain ⟨X, hX⟩ := zn1 (Nm.name i : ByteArray)
        obtain ⟨Y, hY⟩ := zn1 (⟨(99 :: 46 :: Byt.nmL i).toArray⟩ : ByteArray)
        have hY' : Byt.strV (99 :: 46 :: Byt.nmL i) = .string Y := by rw [hY]; rfl
        have he1 : (s.toList == X.toList) = decide (s.data.toList = Byt.nmL i) := by rw [hX]; exact eq_nm s _
        have he2 := eq_str s Y _ hY
        have hv : T = if s.data.toList = Byt.nmL i then (i, 4) else if s.data.toList = 99 :: 46 :: Byt.nmL i then (i, 2) else Byt.wrdFrom s.data.toList (71 - (i + 1)) (i + 1) := by
         rw [hh.out, show 71 - i = (71 - (i + 1)) + 1 by omega]; rfl
        have HX := hide1 hX
        have HY := hide1 hY'
        clear hX hY hY'
        by_cases c1 : s.data.toList = Byt.nmL i
        . rw [if_pos c1] at hv
          rw [decide_eq_true c1] at he1
          have HV := hide1 hv
          clear hv hh HT he2 c1
          go_wp2_with (go_at_call 212; refine (a_Name i _).mono ?_; rintro e w' ⟨rfl, rfl⟩; rw [<- HX.out])
          exact zq347
        . rw [if_neg c1] at hv
          rw [decide_eq_false c1] at he1
          by_cases c2 : s.data.toList = 99 :: 46 :: Byt.nmL i
          . rw [if_pos c2] at hv
            rw [decide_eq_true c2] at he2
            have HV := hide1 hv
            clear hv hh HT c1 c2
            go_wp2_with (first | (go_at_call 212; refine (a_Name i _).mono ?_; rintro e w' ⟨rfl, rfl⟩; rw [<- HX.out]) | (go_at_call 214; refine (a_shortName i (by omega) _).mono ?_; rintro e w' ⟨rfl, rfl⟩; rw [HY.out]))
            exact zq347
          . rw [if_neg c2] at hv
            rw [decide_eq_false c2] at he2
            have HV := hide1 hv
            clear hv hh HT c1 c2
            go_wp2_with (first | (go_at_call 212; refine (a_Name i _).mono ?_; rintro e w' ⟨rfl, rfl⟩; rw [<- HX.out]) | (go_at_call 214; refine (a_shortName i (by omega) _).mono ?_; rintro e w' ⟨rfl, rfl⟩; rw [HY.out]))
            go_round
            case rel => exact ⟨i + 1, by omega, by omega, by go_num, HV⟩
            case measure => exact zq191
      . obtain rfl : i = 71 := by omega
        have hT : Hid (T = (0, 0)) := hh
        clear hh HT
        go_wp2
        go_ret2
        exact zq348
theorem fields_ins : (prog.fieldsOf 60).toList.map (fun f => (f.name, f.type, f.offset)) = [("Op", 3, 0), ("Rd", 3, 1), ("Rs1", 3, 2), ("Rs2", 3, 3), ("Imm", 3, 4), ("Len", 3, 5)] := by kernel_rfl
theorem und_ins : prog.underlying 60 = some (.struct (prog.fieldsOf 60)) := by kernel_rfl
theorem stood_ins : prog.stoodInHeld 60 = false := by kernel_rfl
theorem eqFields_ins (d : Nat) (a0 a1 a2 a3 a4 a5 b0 b1 b2 b3 b4 b5 : Int) (fs : List Field) (h : fs.map (fun f => (f.name, f.type, f.offset)) = [("Op", 3, 0), ("Rd", 3, 1), ("Rs1", 3, 2), ("Rs2", 3, 3), ("Imm", 3, 4), ("Len", 3, 5)]) (w : World) :
 (Op.eqFields (d + 1) #[.int .i64 a0, .int .i64 a1, .int .i64 a2, .int .i64 a3, .int .i64 a4, .int .i64 a5] #[.int .i64 b0, .int .i64 b1, .int .i64 b2, .int .i64 b3, .int .i64 b4, .int .i64 b5] fs).run prog w =
   .ok (a0 == b0 && a1 == b1 && a2 == b2 && a3 == b3 && a4 == b4 && a5 == b5) w := by
 rcases fs with _ | ⟨f0, fs⟩
 . simp at h
 rcases fs with _ | ⟨f1, fs⟩
 . simp at h
 rcases fs with _ | ⟨f2, fs⟩
 . simp at h
 rcases fs with _ | ⟨f3, fs⟩
 . simp at h
 rcases fs with _ | ⟨f4, fs⟩
 . simp at h
 rcases fs with _ | ⟨f5, fs⟩
 . simp at h
 rcases fs with _ | ⟨f6, fs⟩
 . simp only [List.map_cons, List.map_nil, List.cons.injEq, Prod.mk.injEq, and_true] at h
   obtain ⟨⟨n0, t0, o0⟩, ⟨n1, t1, o1⟩, ⟨n2, t2, o2⟩, ⟨n3, t3, o3⟩, ⟨n4, t4, o4⟩, n5, t5, o5⟩ := h
   simp [Op.eqFields, n0, n1, n2, n3, n4, n5, t0, t1, t2, t3, t4, t5, o0, o1, o2, o3, o4, o5, go_sem, part]
   by_cases h0 : a0 = b0 <;> by_cases h1 : a1 = b1 <;> by_cases h2 : a2 = b2 <;> by_cases h3 : a3 = b3 <;> by_cases h4 : a4 = b4 <;> by_cases h5 : a5 = b5 <;> simp [h0, h1, h2, h3, h4, h5]
 . simp at h
theorem eql_ins (a0 a1 a2 a3 a4 a5 b0 b1 b2 b3 b4 b5 : Int) (w : World) :
 (binOp .eql 60 (.agg #[.int .i64 a0, .int .i64 a1, .int .i64 a2, .int .i64 a3, .int .i64 a4, .int .i64 a5]) (.agg #[.int .i64 b0, .int .i64 b1, .int .i64 b2, .int .i64 b3, .int .i64 b4, .int .i64 b5])).run prog w =
   .ok (.bool (a0 == b0 && a1 == b1 && a2 == b2 && a3 == b3 && a4 == b4 && a5 == b5)) w := by
 rw [run_eql_struct, show (10000 : Nat) = 9998 + 1 + 1 from rfl, run_equalIn_agg w (9998 + 1) 60 _ _ und_ins stood_ins, eqFields_ins 9998 _ _ _ _ _ _ _ _ _ _ _ _ _ fields_ins]
 rfl
theorem scan_someE {f : Nat -> Option Ins} {j : Ins} : ∀ (m n : Nat), scan f n m = some j -> ∃ k, n <= k /\ k < n + m /\ f k = some j
 | 0, _, h => by cases h
 | m + 1, n, h => by
  rw [scan_step] at h
  cases hf : f n with
  | some i => rw [hf] at h; simp at h; exact ⟨n, by omega, by omega, by rw [hf, h]⟩
  | none =>
   rw [hf] at h
   obtain ⟨k, h1, h2, h3⟩ := scan_someE m (n + 1) h
   exact ⟨k, by omega, by omega, h3⟩
structure Ln where
 nm : List UInt8
 i : Ins
 tg : List UInt8
def lnA (N : ByteArray) (i : Ins) (G : ByteArray) : Value := .agg #[.string N, .int .i64 i.op, .int .i64 i.rd, .int .i64 i.rs1, .int .i64 i.rs2, .int .i64 i.im, .int .i64 i.ln, .string G]
def lnV (l : Ln) : Value := lnA ⟨l.nm.toArray⟩ l.i ⟨l.tg.toArray⟩
def ln0 : Ln := ⟨[], ins0, []⟩
def insO (N G : ByteArray) : Option Ins -> Value
 | some i => .tuple #[lnA N i G, .bool true]
 | none => .tuple #[lnA ⟨#[]⟩ ins0 ⟨#[]⟩, .bool false]
namespace Byt
def opdR (i : Ins) (c : Nat) (t : List UInt8) : Option Ins :=
 match reg t with
 | none => none
 | some r => some (if c = 100 then { i with rd := r } else if c = 115 then { i with rs1 := r } else { i with rs2 := r })
def opdN (i : Ins) (c : Nat) (t : List UInt8) : Option Ins :=
 if (number t).2 = true then some (if c = 117 then { i with rs1 := (number t).1 } else { i with im := (number t).1 }) else none
def opdM (i : Ins) (t0 t1 t2 t3 : List UInt8) : Option Ins :=
 if t1 = [40] /\ t3 = [41] /\ (number t0).2 = true then
  match reg t2 with
  | none => none
  | some r => some { i with im := (number t0).1, rs1 := r }
 else none
end Byt
theorem a_readRegisterOperand (N G : ByteArray) (i : Ins) (c : Nat) (hc : c = 100 \/ c = 115 \/ c = 116) (s : ByteArray) (w : World) :
 CB 355 #[lnA N i G, .int .u8 c, .string s] (insO N G (Byt.opdR i c s.data.toList)) w := by
 unfold Byt.opdR
 obtain ⟨T, hT⟩ := zn1 (Byt.reg s.data.toList)
 rw [<- hT]
 have HT := hide1 hT
 clear hT
 unfold lnA
 cases T with
 | none =>
  go_enter func355, ntmps355
  go_wp2_with fail
  refine (a_readRegister s _).mono ?_
  rintro e w' ⟨rfl, rfl⟩
  rw [<- HT.out]
  go_wp2
  refine bodyPost_ret (v := insO N G none) zq532 rfl ⟨rfl, ?_⟩
  repeat (first | exact Below.refl _ _ | (with_reducible refine Below.setCell ?_ (by simp) _) | (with_reducible refine Below.alloc ?_ (by simp) _))
 | some r =>
  rcases hc with rfl | rfl | rfl
  . go_enter func355, ntmps355
    go_wp2_with fail
    refine (a_readRegister s _).mono ?_
    rintro e w' ⟨rfl, rfl⟩
    rw [<- HT.out]
    go_wp2
    refine bodyPost_ret (v := insO N G (some { i with rd := r })) zq532 rfl ⟨rfl, ?_⟩
    exact zq349
  . go_enter func355, ntmps355
    go_wp2_with fail
    refine (a_readRegister s _).mono ?_
    rintro e w' ⟨rfl, rfl⟩
    rw [<- HT.out]
    go_wp2
    refine bodyPost_ret (v := insO N G (some { i with rs1 := r })) zq532 rfl ⟨rfl, ?_⟩
    exact zq349
  . go_enter func355, ntmps355
    go_wp2_with fail
    refine (a_readRegister s _).mono ?_
    rintro e w' ⟨rfl, rfl⟩
    rw [<- HT.out]
    go_wp2
    refine bodyPost_ret (v := insO N G (some { i with rs2 := r })) zq532 rfl ⟨rfl, ?_⟩
    exact zq349
theorem eq_lit (s : ByteArray) (l : List UInt8) : (s.toList == l) = decide (s.data.toList = l) := by
 rw [Lib.toList_data, Bool.eq_iff_iff]; simp
theorem StrsAt.more {w w' : World} {b o : Nat} {L : List (List UInt8)} (h : Hid (StrsAt w b o L)) (hn : b < w.heap.size) (hb : Below w.heap.size w w') : Hid (StrsAt w' b o L) := h.out.below hb hn
def Short (L : List (List UInt8)) : Prop := ∀ t ∈ L, t.length <= 5000
theorem Short.get {L : List (List UInt8)} (h : Hid (Short L)) (a : Nat) : (L[a]?.getD []).length <= 5000 := by
 cases e : L[a]? with
 | none => simp
 | some t => exact h.out t (List.mem_of_getElem? e)
theorem a_readPlaceOperand (N G : ByteArray) (i : Ins) (b o cap : Nat) (L : List (List UInt8)) (hL : L.length <= 5000) (a : Nat) (ha : a <= 9000) (w : World) (hw : Hid (StrsAt w b o L)) (hb : b < w.heap.size) (hs : Hid (Short L)) :
 CB 356 #[lnA N i G, .slice (some ⟨b, o, none⟩) L.length cap, .int .i64 a] (insO N G (Byt.opdM i (L[a]?.getD []) (L[a + 1]?.getD []) (L[a + 2]?.getD []) (L[a + 3]?.getD []))) w := by
 unfold lnA
 have c0 := fun w hw => a_tokenAt b o cap L hL a (by omega) w hw
 have c1 := fun w hw => a_tokenAt b o cap L hL (a + 1) (by omega) w hw
 have c2 := fun w hw => a_tokenAt b o cap L hL (a + 2) (by omega) w hw
 have c3 := fun w hw => a_tokenAt b o cap L hL (a + 3) (by omega) w hw
 have s0 := Short.get hs a
 obtain ⟨t0, h0⟩ := zn1 (L[a]?.getD [])
 obtain ⟨t1, h1⟩ := zn1 (L[a + 1]?.getD [])
 obtain ⟨t2, h2⟩ := zn1 (L[a + 2]?.getD [])
 obtain ⟨t3, h3⟩ := zn1 (L[a + 3]?.getD [])
 rw [<- h0, <- h1, <- h2, <- h3]
 rw [<- h0] at c0 s0
 rw [<- h1] at c1
 rw [<- h2] at c2
 rw [<- h3] at c3
 clear h0 h1 h2 h3
 obtain ⟨X0, e0⟩ := zn1 (⟨t0.toArray⟩ : ByteArray)
 obtain ⟨X1, e1⟩ := zn1 (⟨t1.toArray⟩ : ByteArray)
 obtain ⟨X2, e2⟩ := zn1 (⟨t2.toArray⟩ : ByteArray)
 obtain ⟨X3, e3⟩ := zn1 (⟨t3.toArray⟩ : ByteArray)
 rw [show Byt.strV t0 = .string X0 by rw [e0]; rfl] at c0
 rw [show Byt.strV t1 = .string X1 by rw [e1]; rfl] at c1
 rw [show Byt.strV t2 = .string X2 by rw [e2]; rfl] at c2
 rw [show Byt.strV t3 = .string X3 by rw [e3]; rfl] at c3
 have f0 : X0.data.toList = t0 := by rw [e0]
 have f1 : X1.data.toList = t1 := by rw [e1]
 have f2 : X2.data.toList = t2 := by rw [e2]
 have f3 : X3.data.toList = t3 := by rw [e3]
 have s0' : X0.size <= 5000 := by rw [e0]; simpa [ByteArray.size] using s0
 clear e0 e1 e2 e3 s0
 subst f0 f1 f2 f3
 have C0 := hide1 c0
 have C1 := hide1 c1
 have C2 := hide1 c2
 have C3 := hide1 c3
 clear c0 c1 c2 c3
 have B2 : Below w.heap.size w ((w.alloc (.cells #[Value.string N, .int .i64 i.op, .int .i64 i.rd, .int .i64 i.rs1, .int .i64 i.rs2, .int .i64 i.im, .int .i64 i.ln, .string G] 165)).alloc (.cells #[Value.string ⟨#[]⟩, .int .i64 0, .int .i64 0, .int .i64 0, .int .i64 0, .int .i64 0, .int .i64 0, .string ⟨#[]⟩] 165)) := zq137
 have hw2 := StrsAt.more hw hb B2
 have HB := hide1 B2
 clear B2
 have q1 : (X1.toList == [40]) = decide (X1.data.toList = [40]) := eq_lit X1 [40]
 have q3 : (X3.toList == [41]) = decide (X3.data.toList = [41]) := eq_lit X3 [41]
 unfold Byt.opdM
 by_cases k1 : X1.data.toList = [40]
 . rw [decide_eq_true k1] at q1
   by_cases k3 : X3.data.toList = [41]
   . rw [decide_eq_true k3] at q3
     obtain ⟨V, hV⟩ := zn1 (Byt.number X0.data.toList)
     rw [<- hV]
     have HV := hide1 hV
     clear hV
     obtain ⟨v, vb⟩ := V
     cases vb with
     | false =>
      rw [if_neg (fun h => by simp at h)]
      clear k1 k3
      go_enter func356, ntmps356
      go_wp2_with fail
      rw [show (a : Int) + 1 = ((a + 1 : Nat) : Int) by omega]
      refine (C1.out _ hw2).mono ?_
      rintro e w1 ⟨rfl, rfl⟩
      go_wp2_with fail
      rw [show (a : Int) + 3 = ((a + 3 : Nat) : Int) by omega]
      refine (C3.out _ hw2).mono ?_
      rintro e w1 ⟨rfl, rfl⟩
      go_wp2_with fail
      refine (C0.out _ hw2).mono ?_
      rintro e w1 ⟨rfl, rfl⟩
      go_wp2_with fail
      refine (a_readNumber X0 s0' _).mono ?_
      rintro e w1 ⟨rfl, rfl⟩
      rw [<- HV.out]
      go_wp2
      refine bodyPost_ret (v := insO N G none) zq533 rfl ⟨rfl, ?_⟩
      repeat (first | exact Below.refl _ _ | (with_reducible refine Below.setCell ?_ (by simp) _) | (with_reducible refine Below.alloc ?_ (by simp) _))
     | true =>
      rw [if_pos ⟨k1, k3, rfl⟩]
      clear k1 k3
      obtain ⟨R, hR⟩ := zn1 (Byt.reg X2.data.toList)
      rw [<- hR]
      have HR := hide1 hR
      clear hR
      cases R with
      | none =>
       go_enter func356, ntmps356
       go_wp2_with fail
       rw [show (a : Int) + 1 = ((a + 1 : Nat) : Int) by omega]
       refine (C1.out _ hw2).mono ?_
       rintro e w1 ⟨rfl, rfl⟩
       go_wp2_with fail
       rw [show (a : Int) + 3 = ((a + 3 : Nat) : Int) by omega]
       refine (C3.out _ hw2).mono ?_
       rintro e w1 ⟨rfl, rfl⟩
       go_wp2_with fail
       refine (C0.out _ hw2).mono ?_
       rintro e w1 ⟨rfl, rfl⟩
       go_wp2_with fail
       refine (a_readNumber X0 s0' _).mono ?_
       rintro e w1 ⟨rfl, rfl⟩
       rw [<- HV.out]
       go_wp2_with fail
       rw [show (a : Int) + 2 = ((a + 2 : Nat) : Int) by omega]
       refine (C2.out _ hw2).mono ?_
       rintro e w1 ⟨rfl, rfl⟩
       go_wp2_with fail
       refine (a_readRegister X2 _).mono ?_
       rintro e w1 ⟨rfl, rfl⟩
       rw [<- HR.out]
       go_wp2
       refine bodyPost_ret (v := insO N G none) zq533 rfl ⟨rfl, ?_⟩
       repeat (first | exact Below.refl _ _ | (with_reducible refine Below.setCell ?_ (by simp) _) | (with_reducible refine Below.alloc ?_ (by simp) _))
      | some r =>
       go_enter func356, ntmps356
       go_wp2_with fail
       rw [show (a : Int) + 1 = ((a + 1 : Nat) : Int) by omega]
       refine (C1.out _ hw2).mono ?_
       rintro e w1 ⟨rfl, rfl⟩
       go_wp2_with fail
       rw [show (a : Int) + 3 = ((a + 3 : Nat) : Int) by omega]
       refine (C3.out _ hw2).mono ?_
       rintro e w1 ⟨rfl, rfl⟩
       go_wp2_with fail
       refine (C0.out _ hw2).mono ?_
       rintro e w1 ⟨rfl, rfl⟩
       go_wp2_with fail
       refine (a_readNumber X0 s0' _).mono ?_
       rintro e w1 ⟨rfl, rfl⟩
       rw [<- HV.out]
       go_wp2_with fail
       rw [show (a : Int) + 2 = ((a + 2 : Nat) : Int) by omega]
       refine (C2.out _ hw2).mono ?_
       rintro e w1 ⟨rfl, rfl⟩
       go_wp2_with fail
       refine (a_readRegister X2 _).mono ?_
       rintro e w1 ⟨rfl, rfl⟩
       rw [<- HR.out]
       go_wp2
       refine bodyPost_ret (v := insO N G (some { i with im := v, rs1 := r })) zq533 rfl ⟨rfl, ?_⟩
       repeat (first | exact Below.refl _ _ | (with_reducible refine Below.setCell ?_ (by simp) _) | (with_reducible refine Below.alloc ?_ (by simp) _))
   . rw [decide_eq_false k3] at q3
     rw [if_neg (fun h => k3 h.2.1)]
     clear k1 k3
     go_enter func356, ntmps356
     go_wp2_with fail
     rw [show (a : Int) + 1 = ((a + 1 : Nat) : Int) by omega]
     refine (C1.out _ hw2).mono ?_
     rintro e w1 ⟨rfl, rfl⟩
     go_wp2_with fail
     rw [show (a : Int) + 3 = ((a + 3 : Nat) : Int) by omega]
     refine (C3.out _ hw2).mono ?_
     exact zq350
 . rw [decide_eq_false k1] at q1
   rw [if_neg (fun h => k1 h.1)]
   clear k1 q3
   go_enter func356, ntmps356
   go_wp2_with fail
   rw [show (a : Int) + 1 = ((a + 1 : Nat) : Int) by omega]
   refine (C1.out _ hw2).mono ?_
   exact zq350
namespace Byt
def opdP (i : Ins) (g : List UInt8) (c : Nat) (T : List (List UInt8)) : Option (Ins × List UInt8) :=
 if c = 100 \/ c = 115 \/ c = 116 then (opdR i c (T[0]?.getD [])).map fun j => (j, g)
 else if c = 109 then (opdM i (T[0]?.getD []) (T[1]?.getD []) (T[2]?.getD []) (T[3]?.getD [])).map fun j => (j, g)
 else if c = 106 /\ isName (T[0]?.getD []) = true then some (i, T[0]?.getD [])
 else (opdN i c (T[0]?.getD [])).map fun j => (j, g)
end Byt
def lnO (N : ByteArray) : Option (Ins × List UInt8) -> Value
 | some (i, g) => .tuple #[lnA N i ⟨g.toArray⟩, .bool true]
 | none => .tuple #[lnA ⟨#[]⟩ ins0 ⟨#[]⟩, .bool false]
theorem lnO_map (N : ByteArray) (g : List UInt8) (o : Option Ins) : lnO N (o.map fun j => (j, g)) = insO N ⟨g.toArray⟩ o := by cases o <;> rfl
theorem a_operandTokens (c : Nat) (w : World) :
 CS 311 #[.int .u8 c] (.int .i64 (if c = 109 then 4 else 1 : Nat)) w := by
 by_cases h : c = 109
 . subst h
   exact zq351
 . rw [if_neg h]
   have h' : ((c : Int) == 109) = false := by simp; omega
   exact zq351
structure Bx (w : World) (b : Nat) (N : ByteArray) (i : Ins) (G : ByteArray) : Prop where
 c0 : w.cell? ⟨b, 0, none⟩ = some (.string N)
 c1 : w.cell? ⟨b, 1, none⟩ = some (.int .i64 i.op)
 c2 : w.cell? ⟨b, 2, none⟩ = some (.int .i64 i.rd)
 c3 : w.cell? ⟨b, 3, none⟩ = some (.int .i64 i.rs1)
 c4 : w.cell? ⟨b, 4, none⟩ = some (.int .i64 i.rs2)
 c5 : w.cell? ⟨b, 5, none⟩ = some (.int .i64 i.im)
 c6 : w.cell? ⟨b, 6, none⟩ = some (.int .i64 i.ln)
 c7 : w.cell? ⟨b, 7, none⟩ = some (.string G)
 fro : ∀ o, w.frozen? ⟨b, o, none⟩ = false
 lt : b < w.heap.size
theorem Bx.more {w w' : World} {b n : Nat} {N G : ByteArray} {i : Ins} (h : Bx w b N i G) (hb : Below n w w') (hn : b < n) : Bx w' b N i G :=
 ⟨(hb.cell (p := ⟨b, 0, none⟩) hn).trans h.c0, (hb.cell (p := ⟨b, 1, none⟩) hn).trans h.c1, (hb.cell (p := ⟨b, 2, none⟩) hn).trans h.c2, (hb.cell (p := ⟨b, 3, none⟩) hn).trans h.c3, (hb.cell (p := ⟨b, 4, none⟩) hn).trans h.c4, (hb.cell (p := ⟨b, 5, none⟩) hn).trans h.c5, (hb.cell (p := ⟨b, 6, none⟩) hn).trans h.c6, (hb.cell (p := ⟨b, 7, none⟩) hn).trans h.c7, fun o => (hb.frozen (p := ⟨b, o, none⟩) hn).trans (h.fro o), by have := hb.size; have := h.lt; omega⟩
def lnC (N : ByteArray) (i : Ins) (G : ByteArray) : Obj := .cells #[.string N, .int .i64 i.op, .int .i64 i.rd, .int .i64 i.rs1, .int .i64 i.rs2, .int .i64 i.im, .int .i64 i.ln, .string G] 165
theorem Bx.new (w : World) (N : ByteArray) (i : Ins) (G : ByteArray) : Bx (w.alloc (lnC N i G)) w.heap.size N i G := by
 unfold lnC
 refine ⟨?_, ?_, ?_, ?_, ?_, ?_, ?_, ?_, ?_, ?_⟩ <;> simp
theorem Bx.alloc {w : World} {b : Nat} {N G : ByteArray} {i : Ins} (h : Bx w b N i G) (o : Obj) : Bx (w.alloc o) b N i G := h.more ((Below.refl w.heap.size w).alloc (Nat.le_refl _) o) h.lt
theorem drop_get (L : List (List UInt8)) (a k : Nat) : (L.drop a)[k]? = L[a + k]? := List.getElem?_drop
theorem a_readOperand (N : ByteArray) (g : List UInt8) (i : Ins) (c : Nat) (hc : c = 100 \/ c = 115 \/ c = 116 \/ c = 109 \/ c = 106 \/ c = 117 \/ c = 105) (b o cap : Nat) (L : List (List UInt8)) (hL : L.length <= 5000) (a : Nat) (ha : a <= 9000) (w : World) (hw : Hid (StrsAt w b o L)) (hb : b < w.heap.size) (hs : Hid (Short L)) :
 CB 310 #[lnA N i ⟨g.toArray⟩, .int .u8 c, .slice (some ⟨b, o, none⟩) L.length cap, .int .i64 a] (lnO N (Byt.opdP i g c (L.drop a))) w := by
 have c0 := fun w hw => a_tokenAt b o cap L hL a (by omega) w hw
 have s0 := Short.get hs a
 have cm := fun (w : World) (hw : Hid (StrsAt w b o L)) (hb : b < w.heap.size) => a_readPlaceOperand N ⟨g.toArray⟩ i b o cap L hL a ha w hw hb hs
 unfold Byt.opdP
 rw [drop_get, drop_get, drop_get, drop_get, Nat.add_zero]
 obtain ⟨t0, h0⟩ := zn1 (L[a]?.getD [])
 rw [<- h0]
 rw [<- h0] at c0 s0 cm
 clear h0
 obtain ⟨X0, e0⟩ := zn1 (⟨t0.toArray⟩ : ByteArray)
 rw [show Byt.strV t0 = .string X0 by rw [e0]; rfl] at c0
 have f0 : X0.data.toList = t0 := by rw [e0]
 have s0' : X0.size <= 5000 := by rw [e0]; simpa [ByteArray.size] using s0
 clear e0 s0
 subst f0
 have C0 := hide1 c0
 have CM := hide1 cm
 clear c0 cm
 obtain ⟨G, hG⟩ := zn1 (⟨g.toArray⟩ : ByteArray)
 have B2 : Below w.heap.size w ((w.alloc (lnC N i G)).alloc (lnC ⟨#[]⟩ ins0 ⟨#[]⟩)) := zq137
 have hw2 := StrsAt.more hw hb B2
 have hb2 : b < ((w.alloc (lnC N i G)).alloc (lnC ⟨#[]⟩ ins0 ⟨#[]⟩)).heap.size := Nat.lt_of_lt_of_le hb B2.size
 have hX : Bx ((w.alloc (lnC N i G)).alloc (lnC ⟨#[]⟩ ins0 ⟨#[]⟩)) (w.heap.size + 1) ⟨#[]⟩ ins0 ⟨#[]⟩ := by
  have h := Bx.new (w.alloc (lnC N i G)) ⟨#[]⟩ ins0 ⟨#[]⟩
  simpa using h
 have HB := hide1 B2
 have HB2 := hide1 hb2
 have HX := hide1 hX
 unfold lnC ins0 at hw2 HB HB2 HX
 clear B2 hb2 hX
 rcases hc with rfl | rfl | rfl | rfl | rfl | rfl | rfl
 . rw [if_pos (by decide), lnO_map, <- hG]
   clear hG
   obtain ⟨O, hO⟩ := zn1 (Byt.opdR i 100 X0.data.toList)
   rw [<- hO]
   have HO := hide1 hO
   clear hO
   unfold lnA
   go_enter func310, ntmps310
   go_wp2_with fail
   refine (C0.out _ hw2).mono ?_
   rintro e w1 ⟨rfl, rfl⟩
   go_wp2_with fail
   refine (a_readRegisterOperand N G i 100 (by decide) X0 _).mono ?_
   exact zq352
 . rw [if_pos (by decide), lnO_map, <- hG]
   clear hG
   obtain ⟨O, hO⟩ := zn1 (Byt.opdR i 115 X0.data.toList)
   rw [<- hO]
   have HO := hide1 hO
   clear hO
   unfold lnA
   go_enter func310, ntmps310
   go_wp2_with fail
   refine (C0.out _ hw2).mono ?_
   rintro e w1 ⟨rfl, rfl⟩
   go_wp2_with fail
   refine (a_readRegisterOperand N G i 115 (by decide) X0 _).mono ?_
   exact zq352
 . rw [if_pos (by decide), lnO_map, <- hG]
   clear hG
   obtain ⟨O, hO⟩ := zn1 (Byt.opdR i 116 X0.data.toList)
   rw [<- hO]
   have HO := hide1 hO
   clear hO
   unfold lnA
   go_enter func310, ntmps310
   go_wp2_with fail
   refine (C0.out _ hw2).mono ?_
   rintro e w1 ⟨rfl, rfl⟩
   go_wp2_with fail
   refine (a_readRegisterOperand N G i 116 (by decide) X0 _).mono ?_
   exact zq352
 . rw [if_neg (by decide), if_pos rfl, lnO_map, <- hG]
   rw [<- hG] at CM
   clear hG
   obtain ⟨O, hO⟩ := zn1 (Byt.opdM i X0.data.toList (L[a + 1]?.getD []) (L[a + 2]?.getD []) (L[a + 3]?.getD []))
   rw [<- hO]
   have HO := hide1 hO
   clear hO
   unfold lnA
   go_enter func310, ntmps310
   go_wp2_with fail
   refine (C0.out _ hw2).mono ?_
   rintro e w1 ⟨rfl, rfl⟩
   go_wp2_with fail
   refine (CM.out _ hw2 HB2.out).mono ?_
   exact zq352
 . rw [if_neg (by decide), if_neg (by decide)]
   cases hn : Byt.isName X0.data.toList
   . rw [if_neg (by simp), lnO_map, <- hG]
     clear hG
     obtain ⟨V, hV⟩ := zn1 (Byt.number X0.data.toList)
     have HV := hide1 hV
     unfold Byt.opdN
     rw [<- hV]
     clear hV
     obtain ⟨v, vb⟩ := V
     cases vb with
     | false =>
      rw [if_neg (by simp)]
      unfold lnA
      go_enter func310, ntmps310
      go_wp2_with fail
      refine (C0.out _ hw2).mono ?_
      rintro e w1 ⟨rfl, rfl⟩
      go_wp2_with fail
      refine (a_isName X0 s0' _).mono ?_
      rintro e w1 ⟨rfl, rfl⟩
      rw [hn]
      go_wp2_with fail
      refine (a_readNumber X0 s0' _).mono ?_
      rintro e w1 ⟨rfl, rfl⟩
      rw [<- HV.out]
      go_wp2
      refine bodyPost_ret (v := insO N G none) zq534 rfl ⟨by first | rfl | simp [lnO, lnA], ?_⟩
      repeat (first | with_reducible exact Below.refl _ _ | with_reducible exact hB.out | (with_reducible refine Below.setCell ?_ (by simp) _) | (with_reducible refine Below.alloc ?_ (by simp) _))
     | true =>
      rw [if_pos rfl]
      unfold lnA
      go_enter func310, ntmps310
      go_wp2_with fail
      refine (C0.out _ hw2).mono ?_
      rintro e w1 ⟨rfl, rfl⟩
      go_wp2_with fail
      refine (a_isName X0 s0' _).mono ?_
      rintro e w1 ⟨rfl, rfl⟩
      rw [hn]
      go_wp2_with fail
      refine (a_readNumber X0 s0' _).mono ?_
      rintro e w1 ⟨rfl, rfl⟩
      rw [<- HV.out]
      go_wp2
      refine bodyPost_ret (v := insO N G (some { i with im := v })) zq534 rfl ⟨by first | rfl | simp [lnO, lnA], ?_⟩
      repeat (first | with_reducible exact Below.refl _ _ | with_reducible exact hB.out | (with_reducible refine Below.setCell ?_ (by simp) _) | (with_reducible refine Below.alloc ?_ (by simp) _))
   . rw [if_pos (by simp)]
     rw [<- hG]
     clear hG
     unfold lnA
     go_enter func310, ntmps310
     go_wp2_with fail
     refine (C0.out _ hw2).mono ?_
     rintro e w1 ⟨rfl, rfl⟩
     go_wp2_with fail
     refine (a_isName X0 s0' _).mono ?_
     rintro e w1 ⟨rfl, rfl⟩
     rw [hn]
     go_wp2
     refine bodyPost_ret (v := .tuple #[lnA N i X0, .bool true]) zq534 rfl ⟨by first | rfl | simp [lnO, lnA], ?_⟩
     repeat (first | with_reducible exact Below.refl _ _ | with_reducible exact hB.out | (with_reducible refine Below.setCell ?_ (by simp) _) | (with_reducible refine Below.alloc ?_ (by simp) _))
 . rw [if_neg (by decide), if_neg (by decide), if_neg (by simp), lnO_map, <- hG]
   clear hG
   obtain ⟨V, hV⟩ := zn1 (Byt.number X0.data.toList)
   have HV := hide1 hV
   unfold Byt.opdN
   rw [<- hV]
   clear hV
   obtain ⟨v, vb⟩ := V
   cases vb with
   | false =>
    rw [if_neg (by simp)]
    unfold lnA
    go_enter func310, ntmps310
    go_wp2_with fail
    refine (C0.out _ hw2).mono ?_
    rintro e w1 ⟨rfl, rfl⟩
    go_wp2_with fail
    refine (a_readNumber X0 s0' _).mono ?_
    rintro e w1 ⟨rfl, rfl⟩
    rw [<- HV.out]
    go_wp2
    refine bodyPost_ret (v := insO N G none) zq534 rfl ⟨by first | rfl | simp [lnO, lnA], ?_⟩
    repeat (first | with_reducible exact Below.refl _ _ | with_reducible exact hB.out | (with_reducible refine Below.setCell ?_ (by simp) _) | (with_reducible refine Below.alloc ?_ (by simp) _))
   | true =>
    rw [if_pos rfl]
    unfold lnA
    go_enter func310, ntmps310
    go_wp2_with fail
    refine (C0.out _ hw2).mono ?_
    rintro e w1 ⟨rfl, rfl⟩
    go_wp2_with fail
    refine (a_readNumber X0 s0' _).mono ?_
    rintro e w1 ⟨rfl, rfl⟩
    rw [<- HV.out]
    go_wp2
    refine bodyPost_ret (v := insO N G (some { i with rs1 := v })) zq534 rfl ⟨by first | rfl | simp [lnO, lnA], ?_⟩
    repeat (first | with_reducible exact Below.refl _ _ | with_reducible exact hB.out | (with_reducible refine Below.setCell ?_ (by simp) _) | (with_reducible refine Below.alloc ?_ (by simp) _))
 . rw [if_neg (by decide), if_neg (by decide), if_neg (by simp), lnO_map, <- hG]
   clear hG
   obtain ⟨V, hV⟩ := zn1 (Byt.number X0.data.toList)
   have HV := hide1 hV
   unfold Byt.opdN
   rw [<- hV]
   clear hV
   obtain ⟨v, vb⟩ := V
   cases vb with
   | false =>
    rw [if_neg (by simp)]
    unfold lnA
    go_enter func310, ntmps310
    go_wp2_with fail
    refine (C0.out _ hw2).mono ?_
    rintro e w1 ⟨rfl, rfl⟩
    go_wp2_with fail
    refine (a_readNumber X0 s0' _).mono ?_
    rintro e w1 ⟨rfl, rfl⟩
    rw [<- HV.out]
    go_wp2
    refine bodyPost_ret (v := insO N G none) zq534 rfl ⟨by first | rfl | simp [lnO, lnA], ?_⟩
    repeat (first | with_reducible exact Below.refl _ _ | with_reducible exact hB.out | (with_reducible refine Below.setCell ?_ (by simp) _) | (with_reducible refine Below.alloc ?_ (by simp) _))
   | true =>
    rw [if_pos rfl]
    unfold lnA
    go_enter func310, ntmps310
    go_wp2_with fail
    refine (C0.out _ hw2).mono ?_
    rintro e w1 ⟨rfl, rfl⟩
    go_wp2_with fail
    refine (a_readNumber X0 s0' _).mono ?_
    rintro e w1 ⟨rfl, rfl⟩
    rw [<- HV.out]
    go_wp2
    refine bodyPost_ret (v := insO N G (some { i with im := v })) zq534 rfl ⟨by first | rfl | simp [lnO, lnA], ?_⟩
    repeat (first | with_reducible exact Below.refl _ _ | with_reducible exact hB.out | (with_reducible refine Below.setCell ?_ (by simp) _) | (with_reducible refine Below.alloc ?_ (by simp) _))
namespace Byt
def cnt (c : Nat) : Nat := if c = 109 then 4 else 1
def opsP : List Nat -> Bool -> Ins -> List UInt8 -> List (List UInt8) -> Option (Ins × List UInt8)
 | [], _, i, g, T => if T.length = 0 then some (i, g) else none
 | c :: cs, m, i, g, T =>
  if m = true /\ T[0]?.getD [] ≠ [44] then none
  else match opdP i g c (T.drop (if m then 1 else 0)) with
   | none => none
   | some (i', g') => opsP cs true i' g' (T.drop ((if m then 1 else 0) + cnt c))
theorem reg_nil : reg [] = none := by decide
theorem number_nil : (number []).2 = false := by decide
theorem isName_nil : isName [] = false := by decide
theorem getD_ne {T : List (List UInt8)} {k : Nat} (h : T[k]?.getD [] ≠ []) : k < T.length := by
 refine Nat.lt_of_not_le fun hk => h ?_
 rw [List.getElem?_eq_none hk]; rfl
theorem opd_len (i : Ins) (g : List UInt8) (c : Nat) (T : List (List UInt8)) (x : Ins × List UInt8) (h : opdP i g c T = some x) : cnt c <= T.length := by
 unfold opdP at h
 unfold cnt
 split at h
 . next hc =>
   rw [if_neg (by omega)]
   have : T[0]?.getD [] ≠ [] := by
    intro e; rw [e] at h; simp [opdR, reg_nil] at h
   have := getD_ne this; omega
 . split at h
   . next hc =>
     rw [if_pos hc]
     simp only [opdM] at h
     split at h
     . next hh =>
       have : T[3]?.getD [] ≠ [] := by rw [hh.2.1]; simp
       have := getD_ne this; omega
     . simp at h
   . next h1 h2 =>
     rw [if_neg h2]
     have : T[0]?.getD [] ≠ [] := by
      intro e
      rw [e] at h; simp [isName_nil, opdN, number_nil] at h
     have := getD_ne this; omega
end Byt
def put8 (w : World) (b : Nat) (N : ByteArray) (i : Ins) (G : ByteArray) : World :=
 (((((((w.setCell ⟨b, 0, none⟩ (.string N)).setCell ⟨b, 1, none⟩ (.int .i64 i.op)).setCell ⟨b, 2, none⟩ (.int .i64 i.rd)).setCell ⟨b, 3, none⟩ (.int .i64 i.rs1)).setCell ⟨b, 4, none⟩ (.int .i64 i.rs2)).setCell ⟨b, 5, none⟩ (.int .i64 i.im)).setCell ⟨b, 6, none⟩ (.int .i64 i.ln)).setCell ⟨b, 7, none⟩ (.string G)
theorem Bx.put {w : World} {b : Nat} {N G N' G' : ByteArray} {i i' : Ins} (h : Bx w b N i G) : Bx (put8 w b N' i' G') b N' i' G' := by
 have h0 := h.c0
 have h1 := h.c1
 have h2 := h.c2
 have h3 := h.c3
 have h4 := h.c4
 have h5 := h.c5
 have h6 := h.c6
 have h7 := h.c7
 have hf := h.fro
 have hl := h.lt
 unfold put8
 refine ⟨?_, ?_, ?_, ?_, ?_, ?_, ?_, ?_, ?_, ?_⟩ <;> simp [go_sem, h0, h1, h2, h3, h4, h5, h6, h7, hf, hl]
theorem below_put8 {n : Nat} {w w' : World} (h : Below n w w') {b : Nat} (hn : n <= b) (N : ByteArray) (i : Ins) (G : ByteArray) : Below n w (put8 w' b N i G) := by
 unfold put8
 repeat (first | with_reducible exact h | (with_reducible refine Below.setCell ?_ hn _))
theorem Bx.put_ne {w : World} {b c : Nat} {N G N' G' : ByteArray} {i i' : Ins} (h : Bx w b N i G) (hbc : b ≠ c) : Bx (put8 w c N' i' G') b N i G := by
 have h0 := h.c0
 have h1 := h.c1
 have h2 := h.c2
 have h3 := h.c3
 have h4 := h.c4
 have h5 := h.c5
 have h6 := h.c6
 have h7 := h.c7
 have hf := h.fro
 have hl := h.lt
 have hcb : ¬ c = b := fun e => hbc e.symm
 unfold put8
 refine ⟨?_, ?_, ?_, ?_, ?_, ?_, ?_, ?_, ?_, ?_⟩ <;> simp [go_sem, h0, h1, h2, h3, h4, h5, h6, h7, hf, hl, hbc, hcb]
def oN (N : ByteArray) (o : Option (Ins × List UInt8)) : ByteArray := if o.isSome then N else ⟨#[]⟩
def oI (o : Option (Ins × List UInt8)) : Ins := (o.map Prod.fst).getD ins0
def oG (o : Option (Ins × List UInt8)) : ByteArray := ⟨((o.map Prod.snd).getD []).toArray⟩
theorem lnO_parts (N : ByteArray) (o : Option (Ins × List UInt8)) : lnO N o = .tuple #[.agg #[.string (oN N o), .int .i64 (oI o).op, .int .i64 (oI o).rd, .int .i64 (oI o).rs1, .int .i64 (oI o).rs2, .int .i64 (oI o).im, .int .i64 (oI o).ln, .string (oG o)], .bool o.isSome] := by
 cases o with
 | none => rfl
 | some x => obtain ⟨i, g⟩ := x; rfl
theorem drop_sh (S : ByteArray) (K : Nat) (h : K < S.size) : (S.data.toList.map UInt8.toNat).drop K = S[K].toNat :: (S.data.toList.map UInt8.toNat).drop (K + 1) := by
 have hl : K < (S.data.toList.map UInt8.toNat).length := by rw [List.length_map, Array.length_toList]; exact h
 rw [List.drop_eq_getElem_cons hl]; simp; rfl
theorem ops_no {cs : List Nat} {c : Nat} {K A : Nat} {i : Ins} {g : List UInt8} {L : List (List UInt8)} (hk : 0 < K) (hc : ¬ L[A]?.getD [] = [44]) : Byt.opsP (c :: cs) (decide (0 < K)) i g (L.drop A) = none := by
 rw [decide_eq_true hk]; simp only [Byt.opsP]; rw [if_pos ⟨trivial, by rw [drop_get, Nat.add_zero]; exact hc⟩]
theorem ops_yes {cs : List Nat} {c : Nat} {K A : Nat} {i : Ins} {g : List UInt8} {L : List (List UInt8)} (hc : 0 < K -> L[A]?.getD [] = [44]) : Byt.opsP (c :: cs) (decide (0 < K)) i g (L.drop A) = match Byt.opdP i g c (L.drop (A + if 0 < K then 1 else 0)) with | none => none | some (x, y) => Byt.opsP cs true x y (L.drop ((A + if 0 < K then 1 else 0) + Byt.cnt c)) := by
 by_cases hk : 0 < K
 . have := hc hk
   rw [decide_eq_true hk, if_pos hk]; simp only [Byt.opsP, if_true]; rw [if_neg (by rw [drop_get, Nat.add_zero]; exact fun h => h.2 this), List.drop_drop, List.drop_drop, Nat.add_assoc]; try rfl
 . rw [decide_eq_false hk, if_neg hk]; simp only [Byt.opsP, Bool.false_eq_true, false_and, if_false]; rw [List.drop_drop, List.drop_drop, Nat.add_zero, Nat.zero_add]; try rfl
theorem endA {w wc w1 : World} {N N1 G G1 : ByteArray} {i I1 : Ins} (hx : Bx wc w.heap.size N i G) (hy : Bx wc (w.heap.size + 1) ⟨#[]⟩ ⟨0, 0, 0, 0, 0, 0⟩ ⟨#[]⟩) (hb : Below w.heap.size w wc) (hb2 : Below wc.heap.size wc.drew w1) :
 Hid (Bx (w1.alloc (lnC N1 I1 G1)) w1.heap.size N1 I1 G1 /\ Bx (w1.alloc (lnC N1 I1 G1)) w.heap.size N i G /\ Bx (w1.alloc (lnC N1 I1 G1)) (w.heap.size + 1) ⟨#[]⟩ ⟨0, 0, 0, 0, 0, 0⟩ ⟨#[]⟩ /\ Below w.heap.size w (w1.alloc (lnC N1 I1 G1)) /\ w.heap.size + 2 <= w1.heap.size) := by
 have h3 : Below wc.heap.size wc w1 := (Below.refl _ _).drew.trans hb2
 have hl := hy.lt
 have hs := h3.size
 exact ⟨Bx.new _ _ _ _, (hx.more h3 hx.lt).alloc _, (hy.more h3 hy.lt).alloc _, (hb.trans (h3.mono hb.size)).alloc (by omega) _, by omega⟩
theorem endB {w wc w1 : World} {N N1 G G1 : ByteArray} {i I1 : Ins} (hx : Bx wc w.heap.size N i G) (hy : Bx wc (w.heap.size + 1) ⟨#[]⟩ ⟨0, 0, 0, 0, 0, 0⟩ ⟨#[]⟩) (hb : Below w.heap.size w wc) (h3 : Below wc.heap.size wc w1) (hz : Bx w1 wc.heap.size ⟨#[]⟩ ⟨0, 0, 0, 0, 0, 0⟩ ⟨#[]⟩) :
 Hid (Bx (put8 w1 wc.heap.size N1 I1 G1) wc.heap.size N1 I1 G1 /\ Bx (put8 w1 wc.heap.size N1 I1 G1) w.heap.size N i G /\ Bx (put8 w1 wc.heap.size N1 I1 G1) (w.heap.size + 1) ⟨#[]⟩ ⟨0, 0, 0, 0, 0, 0⟩ ⟨#[]⟩ /\ Below w.heap.size w (put8 w1 wc.heap.size N1 I1 G1) /\ w.heap.size + 2 <= wc.heap.size) := by
 have hl := hy.lt
 have hl2 := hx.lt
 exact ⟨hz.put, (hx.more h3 hx.lt).put_ne (by omega), (hy.more h3 hy.lt).put_ne (by omega), below_put8 (hb.trans (h3.mono hb.size)) (by omega) _ _ _, by omega⟩
theorem a_readOperands (N : ByteArray) (i : Ins) (g : List UInt8) (S : ByteArray) (hS : Hid (Nm.shape i.op = S)) (hlen : S.size <= 8) (hlet : Hid (∀ k (h : k < S.size), S[k].toNat = 100 \/ S[k].toNat = 115 \/ S[k].toNat = 116 \/ S[k].toNat = 109 \/ S[k].toNat = 106 \/ S[k].toNat = 117 \/ S[k].toNat = 105))
 (b o cap : Nat) (L : List (List UInt8)) (hL : L.length <= 5000) (w : World) (hw : Hid (StrsAt w b o L)) (hb : b < w.heap.size) (hs : Hid (Short L)) :
 CB 222 #[lnA N i ⟨g.toArray⟩, .slice (some ⟨b, o, none⟩) L.length cap] (lnO N (Byt.opsP (S.data.toList.map UInt8.toNat) false i g L)) w := by
 obtain ⟨T, hT⟩ := zn1 (Byt.opsP (S.data.toList.map UInt8.toNat) false i g L)
 rw [<- hT]
 have HT := hide1 hT
 clear hT
 obtain ⟨G, hG⟩ := zn1 (⟨g.toArray⟩ : ByteArray)
 rw [<- hG]
 have B2 : Below w.heap.size w ((w.alloc (lnC N i G)).alloc (lnC ⟨#[]⟩ ins0 ⟨#[]⟩)) := zq137
 have hX : Bx ((w.alloc (lnC N i G)).alloc (lnC ⟨#[]⟩ ins0 ⟨#[]⟩)) (w.heap.size + 1) ⟨#[]⟩ ins0 ⟨#[]⟩ := by
  have h := Bx.new (w.alloc (lnC N i G)) ⟨#[]⟩ ins0 ⟨#[]⟩
  simpa using h
 have hY : Bx ((w.alloc (lnC N i G)).alloc (lnC ⟨#[]⟩ ins0 ⟨#[]⟩)) w.heap.size N i G := (Bx.new w N i G).alloc _
 have HB := hide1 B2
 have HX := hide1 hX
 have HY := hide1 hY
 have HG := hide1 hG
 unfold lnC ins0 at HB HX HY
 clear B2 hX hY hG
 unfold lnA
 go_enter func222, ntmps222
 go_wp2_with (go_at_call 215; refine (a_Shape i.op _).mono ?_; rintro e w' ⟨rfl, rfl⟩; rw [hS.out])
 go_loopw [7, 8] (fun a k wr => ∃ (A K : Nat) (i' : Ins) (g' : List UInt8), A <= L.length /\ K <= S.size /\ a = .int .i64 A /\ k = .int .i64 K /\ Hid (Bx wr w.heap.size N i' ⟨g'.toArray⟩) /\ Hid (Bx wr (w.heap.size + 1) ⟨#[]⟩ ⟨0, 0, 0, 0, 0, 0⟩ ⟨#[]⟩) /\ Hid (Below w.heap.size w wr) /\ Hid (T = Byt.opsP ((S.data.toList.map UInt8.toNat).drop K) (decide (0 < K)) i' g' (L.drop A))) (fun _ k _ => S.size - (intOf k).toNat)
 case atStart => exact ⟨0, 0, i, g, by omega, by omega, rfl, rfl, by rw [<- HG.out]; exact HY, HX, HB, by simpa using HT⟩
 case round =>
  obtain ⟨A, K, i', g', hA, hK, rfl, rfl, hx, hy, hb1, hh⟩ := hrel
  clear HB HX HY HG HT
  by_cases hlt : K < S.size
  . rw [drop_sh S K hlt] at hh
    obtain ⟨c, hc⟩ := zn1 (S[K].toNat)
    rw [<- hc] at hh
    have hcl := hlet.out K hlt
    rw [<- hc] at hcl
    have HC := hide1 hc
    have HCL := hide1 hcl
    clear hc hcl
    have hws := StrsAt.more hw hb hb1.out
    have hbr : b < wr.heap.size := Nat.lt_of_lt_of_le hb hb1.out.size
    obtain ⟨A', hA'⟩ : ∃ A', A' = A + if 0 < K then 1 else 0 := ⟨_, rfl⟩
    have hAl : A' <= 9000 := by rw [hA']; split <;> omega
    have HA := hide1 hA'
    clear hA'
    go_upto_if 22 with fail
    go_cut [7] from 22 to 29 (fun a wx => a = .int .i64 (A' : Int) /\ wx = wr /\ Hid (0 < K -> L[A]?.getD [] = [44]))
    case first =>
     by_cases hk : 0 < K
     . have hk' : decide (0 < K) = true := by simp [hk]
       have c0 := fun w hw => a_tokenAt b o cap L hL A (by omega) w hw
       obtain ⟨t0, h0⟩ := zn1 (L[A]?.getD [])
       rw [<- h0] at c0
       have H0 := hide1 h0
       clear h0
       obtain ⟨X0, e0⟩ := zn1 (⟨t0.toArray⟩ : ByteArray)
       rw [show Byt.strV t0 = .string X0 by rw [e0]; rfl] at c0
       have f0 : X0.data.toList = t0 := by rw [e0]
       clear e0
       rw [<- f0] at H0
       clear f0
       have C0 := hide1 c0
       clear c0
       have q1 : (X0.toList == [44]) = decide (X0.data.toList = [44]) := eq_lit X0 [44]
       by_cases k1 : X0.data.toList = [44]
       . rw [decide_eq_true k1] at q1
         have HK1 := hide1 k1
         have hA1 : Hid ((A' : Int) = A + 1) := by
          have := HA.out
          rw [if_pos hk] at this
          show (A' : Int) = A + 1
          omega
         clear k1 HA
         go_wp2_with (go_at_call 309; refine (C0.out _ hws).mono ?_; rintro e w' ⟨rfl, rfl⟩)
         go_meet
         case rel => exact ⟨by rw [hA1.out], rfl, fun _ => by rw [<- H0.out]; exact HK1.out⟩
       . rw [decide_eq_false k1] at q1
         have hno : Hid (T = none) := by
          show T = none
          rw [hh.out]
          exact ops_no hk (by rw [<- H0.out]; exact k1)
         clear k1 HA hh
         have z0 := hy.out.c0
         have z1 := hy.out.c1
         have z2 := hy.out.c2
         have z3 := hy.out.c3
         have z4 := hy.out.c4
         have z5 := hy.out.c5
         have z6 := hy.out.c6
         have z7 := hy.out.c7
         have zf := hy.out.fro
         have zl := hy.out.lt
         go_wp2_with (go_at_call 309; refine (C0.out _ hws).mono ?_; rintro e w' ⟨rfl, rfl⟩)
         refine bodyPost_ret (v := lnO N none) zq535 rfl ⟨by rw [hno.out], ?_⟩
         exact zq353
     . have hk' : decide (0 < K) = false := by simp [hk]
       have hA1 : Hid ((A' : Int) = A) := by
        have := HA.out
        rw [if_neg hk] at this
        show (A' : Int) = A
        omega
       have HK := hide1 hk
       obtain rfl : K = 0 := by omega
       clear hk hk' HA
       go_wp2
       go_meet
       case rel => exact ⟨by rw [hA1.out], rfl, fun h => absurd h HK.out⟩
    case rest =>
     obtain ⟨rfl, rfl, hcm⟩ := hcut
     rw [ops_yes hcm.out, <- HA.out] at hh
     have hcc := HC.out
     obtain ⟨O, hO⟩ := zn1 (Byt.opdP i' g' c (L.drop A'))
     rw [<- hO] at hh
     have hOl : O.isSome = true -> A' + Byt.cnt c <= L.length := by
      intro h
      obtain ⟨x, hx⟩ := Option.isSome_iff_exists.1 h
      have h1 := Byt.opd_len i' g' c (L.drop A') x (by rw [<- hO]; exact hx)
      rw [List.length_drop] at h1
      have : 1 <= Byt.cnt c := by unfold Byt.cnt; split <;> omega
      omega
     have HOl := hide1 hOl
     have hcall : ∀ W : World, Below wc.heap.size wc W -> CB 310 #[.agg #[.string N, .int .i64 i'.op, .int .i64 i'.rd, .int .i64 i'.rs1, .int .i64 i'.rs2, .int .i64 i'.im, .int .i64 i'.ln, .string ⟨g'.toArray⟩], .int .u8 c, .slice (some ⟨b, o, none⟩) L.length cap, .int .i64 A'] (.tuple #[.agg #[.string (oN N O), .int .i64 (oI O).op, .int .i64 (oI O).rd, .int .i64 (oI O).rs1, .int .i64 (oI O).rs2, .int .i64 (oI O).im, .int .i64 (oI O).ln, .string (oG O)], .bool O.isSome]) W := by
      intro W hW
      have h := a_readOperand N g' i' c HCL.out b o cap L hL A' hAl W (StrsAt.more hws hbr hW) (Nat.lt_of_lt_of_le hbr hW.size) hs
      rw [<- hO, lnO_parts] at h
      exact h
     have hci : S[K].toNat = c := hcc.symm
     clear hOl hO HA hcm HC hcc
     have x0 := hx.out.c0
     have x1 := hx.out.c1
     have x2 := hx.out.c2
     have x3 := hx.out.c3
     have x4 := hx.out.c4
     have x5 := hx.out.c5
     have x6 := hx.out.c6
     have x7 := hx.out.c7
     have xf := hx.out.fro
     have xl := hx.out.lt
     obtain ⟨I1, hI1⟩ := zn1 (oI O)
     obtain ⟨N1, hN1⟩ := zn1 (oN N O)
     obtain ⟨G1, hG1⟩ := zn1 (oG O)
     obtain ⟨ob, hob⟩ := zn1 (O.isSome)
     rw [<- hI1, <- hN1, <- hG1, <- hob] at hcall
     have HP := hide1 (And.intro hI1 (And.intro hN1 (And.intro hG1 hob)))
     clear hI1 hN1 hG1 hob
     have HCA := hide1 ((hcall wc.drew (Below.refl _ _).drew).mono fun e w1 h => (⟨h.1, h.2⟩ : _ /\ Below wc.heap.size wc.drew w1))
     have hnz := (Bx.new wc ⟨#[]⟩ ⟨0, 0, 0, 0, 0, 0⟩ ⟨#[]⟩).more (w' := (wc.alloc (lnC ⟨#[]⟩ ⟨0, 0, 0, 0, 0, 0⟩ ⟨#[]⟩)).drew) (n := wc.heap.size + 1) ((Below.refl _ _).drew) (by omega)
     have hwz : Below wc.heap.size wc (wc.alloc (lnC ⟨#[]⟩ ⟨0, 0, 0, 0, 0, 0⟩ ⟨#[]⟩)).drew := ((Below.refl _ _).alloc (Nat.le_refl _) _).drew
     have HCB := hide1 ((hcall (wc.alloc (lnC ⟨#[]⟩ ⟨0, 0, 0, 0, 0, 0⟩ ⟨#[]⟩)).drew hwz).mono fun e w1 h => (⟨h.1, hwz.trans (h.2.mono hwz.size), hide1 (hnz.more h.2 hnz.lt)⟩ : _ /\ Below wc.heap.size wc w1 /\ Hid (Bx w1 wc.heap.size ⟨#[]⟩ ⟨0, 0, 0, 0, 0, 0⟩ ⟨#[]⟩)))
     unfold lnC at HCB
     clear hcall hnz hwz
     go_upto_region 10 with fail
     go_cut [9, 10] from 30 to 39 (fun p q wx => ∃ nb : Nat, p = .pointer (some ⟨nb, 0, none⟩) /\ q = .bool ob /\ Hid (Bx wx nb N1 I1 G1 /\ Bx wx w.heap.size N i' ⟨g'.toArray⟩ /\ Bx wx (w.heap.size + 1) ⟨#[]⟩ ⟨0, 0, 0, 0, 0, 0⟩ ⟨#[]⟩ /\ Below w.heap.size w wx /\ w.heap.size + 2 <= nb))
     case first =>
      go_region_with (go_at_call 310; first | (with_reducible refine HCA.out.mono ?_; rintro e w1 ⟨rfl, hb2⟩) | (with_reducible refine HCB.out.mono ?_; rintro e w1 ⟨rfl, hb2, hz⟩; have z0 := hz.out.c0; have z1 := hz.out.c1; have z2 := hz.out.c2; have z3 := hz.out.c3; have z4 := hz.out.c4; have z5 := hz.out.c5; have z6 := hz.out.c6; have z7 := hz.out.c7; have zf := hz.out.fro; have zl := hz.out.lt))
      all_goals (go_wp2_with fail; go_meet)
      all_goals first | (refine ⟨w1.heap.size, by with_reducible rfl, rfl, ?_⟩; exact endA hx.out hy.out hb1.out hb2) | (refine ⟨wc.heap.size, by with_reducible rfl, rfl, ?_⟩; exact endB hx.out hy.out hb1.out hb2 hz.out)
     case rest =>
      obtain ⟨nb, rfl, rfl, hq⟩ := hcut
      clear HCA HCB x0 x1 x2 x3 x4 x5 x6 x7 xf xl hx hy hb1 hws hbr hw hs
      have hx := hq.out.2.1
      have hy := hq.out.2.2.1
      have hz := hq.out.1
      have hb1 := hide1 hq.out.2.2.2.1
      have hnb := hq.out.2.2.2.2
      have HX := hide1 hx
      have HY := hide1 hy
      have x0 := hx.c0
      have x1 := hx.c1
      have x2 := hx.c2
      have x3 := hx.c3
      have x4 := hx.c4
      have x5 := hx.c5
      have x6 := hx.c6
      have x7 := hx.c7
      have xf := hx.fro
      have xl := hx.lt
      have y0 := hz.c0
      have y1 := hz.c1
      have y2 := hz.c2
      have y3 := hz.c3
      have y4 := hz.c4
      have y5 := hz.c5
      have y6 := hz.c6
      have y7 := hz.c7
      have yf := hz.fro
      have yl := hz.lt
      have z0 := hy.c0
      have z1 := hy.c1
      have z2 := hy.c2
      have z3 := hy.c3
      have z4 := hy.c4
      have z5 := hy.c5
      have z6 := hy.c6
      have z7 := hy.c7
      have zf := hy.fro
      have zl := hy.lt
      clear hx hy hz hq
      cases O with
      | none =>
       obtain ⟨h1, h2, h3, h4⟩ := HP.out
       have h4' : ob = false := h4
       subst h4'
       have hno : Hid (T = none) := hh
       clear h1 h2 h3 h4 HP hh HOl
       go_wp2
       refine bodyPost_ret (v := lnO N none) zq535 rfl ⟨by rw [hno.out], ?_⟩
       repeat (first | with_reducible exact Below.refl _ _ | with_reducible exact hb1.out | (with_reducible refine Below.setCell ?_ (by simp) _) | (with_reducible refine Below.alloc ?_ (by simp) _))
      | some r =>
       obtain ⟨x, y⟩ := r
       obtain ⟨h1, h2, h3, h4⟩ := HP.out
       have h4' : ob = true := h4
       subst h4'
       have h1' : I1 = x := h1
       have h2' : N1 = N := h2
       have h3' : G1 = ⟨y.toArray⟩ := h3
       subst h1' h2' h3'
       have hgo : Hid (T = Byt.opsP ((S.data.toList.map UInt8.toNat).drop (K + 1)) true I1 y (L.drop (A' + Byt.cnt c))) := hh
       have hAK : A' + Byt.cnt c <= L.length := HOl.out rfl
       clear h1 h2 h3 h4 HP hh HOl
       have hop : ∀ W, CS 311 #[.int .u8 c] (.int .i64 (Byt.cnt c : Nat)) W := fun W => a_operandTokens c W
       obtain ⟨Q, hQ⟩ := zn1 (Byt.cnt c)
       rw [<- hQ] at hop hAK hgo
       have HOP := hide1 hop
       clear hop hQ
       go_wp2_with (go_at_call 311; refine (HOP.out _).mono ?_; rintro e w' ⟨rfl, rfl⟩)
       go_roundw
       case rel =>
        first
         | exact ⟨A' + Q, K + 1, I1, y, hAK, by omega, by go_num, by go_num, hide1 (Bx.put HX.out), hide1 (HY.out.put_ne (by omega)), hide1 (below_put8 hb1.out (Nat.le_refl _) _ _ _), by rw [decide_eq_true (Nat.succ_pos K)]; exact hgo⟩
         | ((repeat apply Exists.intro); exact ⟨⟨A' + Q, K + 1, I1, y, hAK, by omega, by go_num, by go_num, hide1 (Bx.put HX.out), hide1 (HY.out.put_ne (by omega)), hide1 (below_put8 hb1.out (Nat.le_refl _) _ _ _), by rw [decide_eq_true (Nat.succ_pos K)]; exact hgo⟩, rfl⟩)
       case measure => exact zq191
  . have hlt' : decide ((K : Int) < (S.size : Int)) = false := by simp; omega
    have hx' := hx.out
    have hy' := hy.out
    have x0 := hx'.c0
    have x1 := hx'.c1
    have x2 := hx'.c2
    have x3 := hx'.c3
    have x4 := hx'.c4
    have x5 := hx'.c5
    have x6 := hx'.c6
    have x7 := hx'.c7
    have xf := hx'.fro
    have xl := hx'.lt
    have z0 := hy'.c0
    have z1 := hy'.c1
    have z2 := hy'.c2
    have z3 := hy'.c3
    have z4 := hy'.c4
    have z5 := hy'.c5
    have z6 := hy'.c6
    have z7 := hy'.c7
    have zf := hy'.fro
    have zl := hy'.lt
    clear hx' hy'
    rw [List.drop_eq_nil_of_le (by rw [List.length_map, Array.length_toList]; show S.size <= K; omega)] at hh
    by_cases hAL : A = L.length
    . have hT : Hid (T = some (i', g')) := by
       show T = _
       rw [hh.out]; simp only [Byt.opsP]; rw [if_pos (by rw [List.length_drop]; omega)]
      have q1 : ((A : Int) != (L.length : Int)) = false := by simp; omega
      have q2 : (A != L.length) = false := by simp; omega
      clear hh
      go_wp2
      refine bodyPost_ret (v := lnO N (some (i', g'))) (by simp [results, results222, go_sem, lnO, lnA, ins0, x0, x1, x2, x3, x4, x5, x6, x7, xf, xl, z0, z1, z2, z3, z4, z5, z6, z7, zf, zl]) rfl ⟨by rw [hT.out], ?_⟩
      exact zq353
    . have hT : Hid (T = none) := by
       show T = _
       rw [hh.out]; simp only [Byt.opsP]; rw [if_neg (by rw [List.length_drop]; omega)]
      have q1 : ((A : Int) != (L.length : Int)) = true := by simp; omega
      have q2 : (A != L.length) = true := by simp; omega
      clear hh
      go_wp2
      refine bodyPost_ret (v := lnO N none) zq535 rfl ⟨by rw [hT.out], ?_⟩
      exact zq353
namespace Byt
def nls : List UInt8 -> Nat
 | [] => 0
 | c :: l => (if c.toNat = 10 then 1 else 0) + nls l
def findN : List Ln -> List UInt8 -> Nat
 | [], _ => 0
 | l :: L, n => if l.nm = n then 0 else findN L n + 1
theorem findN_le : ∀ L n, findN L n <= L.length
 | [], _ => Nat.le_refl _
 | l :: L, n => by have := findN_le L n; simp only [findN, List.length_cons]; split <;> omega
def shp (op : Nat) : List Nat := (Nm.shape op).data.toList.map UInt8.toNat
def readR (nm : List UInt8) (T : List (List UInt8)) : Int × Ln :=
 match T with
 | [] => (0, ⟨nm, ins0, []⟩)
 | t :: T => if (wrd t).2 = 0 then (5, ln0) else
  match opsP (shp (wrd t).1) false ⟨(wrd t).1, 0, 0, 0, 0, (wrd t).2⟩ [] T with
  | none => (6, ln0)
  | some (i, g) => (0, ⟨nm, i, g⟩)
def readLn (T : List (List UInt8)) (E : List Ln) : Int × Ln :=
 if 1 < T.length /\ T[1]?.getD [] = [58] then
  if isName (T[0]?.getD []) = true then
   if findN E (T[0]?.getD []) < E.length then (9, ln0) else readR (T[0]?.getD []) (T.drop 2)
  else (5, ln0)
 else readR [] T
def segs (pre : List UInt8) : List UInt8 -> List (List UInt8)
 | [] => [pre]
 | c :: l => if c.toNat = 10 then pre :: segs [] l else segs (pre ++ [c]) l
def readAll : List Ln -> List (List UInt8) -> List Ln × Int × Nat
 | E, [] => (E, 0, 0)
 | E, t :: ts => if (readLn (tok t.length t) E).1 = 0 then readAll (E ++ [(readLn (tok t.length t) E).2]) ts else ([], (readLn (tok t.length t) E).1, E.length + 1)
def place : List Ln -> Nat -> Int
 | [], _ => 0
 | _, 0 => 0
 | l :: L, n + 1 => l.i.ln + place L n
def dataD (v least most : Int) : Int × Int := if v < least \/ most < v then (0, 7) else (v, 0)
def wordD (i : Ins) : Int × Int :=
 if i.ln = 0 then (0, 0) else if i.op = 71 then dataD i.im (-2147483648) 4294967295 else if i.op = 72 then dataD i.im (-32768) 65535 else
 if (encodeD i).2 = 0 then ((encodeD i).1, 0) else (0, 7)
def leB (v : Int) (n : Nat) : List UInt8 := (strOfNums (leL v n)).data.toList
def aimed (L : List Ln) (l : Ln) (n : Nat) : Ins := if l.tg = [] then l.i else { l.i with im := place L (findN L l.tg) - n }
def lay (L : List Ln) : List Ln -> Nat -> List UInt8 -> List UInt8 × Int × Nat
 | [], _, m => (m, 0, 0)
 | l :: ls, k, m =>
  if l.tg ≠ [] /\ findN L l.tg = L.length then ([], 8, k + 1) else
  if (wordD (aimed L l m.length)).2 = 0 then lay L ls (k + 1) (m ++ leB (wordD (aimed L l m.length)).1 l.i.ln.toNat) else ([], (wordD (aimed L l m.length)).2, k + 1)
def asmD (t : List UInt8) : List UInt8 × Int × Nat :=
 if 4096 < t.length then ([], 1, 0) else if 256 < 1 + nls t then ([], 4, 0) else
 if (readAll [] (segs [] t)).2.1 = 0 then lay (readAll [] (segs [] t)).1 (readAll [] (segs [] t)).1 0 [] else ([], (readAll [] (segs [] t)).2.1, (readAll [] (segs [] t)).2.2)
end Byt
theorem a_countLines (s : ByteArray) (hs : s.size <= 5000) (w : World) :
 CS 113 #[.string s] (.int .i64 ((1 + Byt.nls s.data.toList : Nat) : Int)) w := by
 obtain ⟨T, hT⟩ := zn1 (1 + Byt.nls s.data.toList)
 rw [<- hT]
 have HT := hide1 hT
 clear hT
 go_enter func113, ntmps113
 go_wp2
 go_loop [3, 4] (fun c d => ∃ a n : Nat, a <= s.size /\ n <= 1 + a /\ c = .int .i64 n /\ d = .int .i64 a /\ Hid (T = n + Byt.nls (s.data.toList.drop a))) (fun _ d => s.size - (intOf d).toNat)
 case atStart => exact ⟨0, 1, by omega, by omega, rfl, rfl, HT⟩
 case round =>
  obtain ⟨a, n, ha, hn, rfl, rfl, hh⟩ := hrel
  by_cases hlt : a < s.size
  . have hv : T = n + ((if s[a].toNat = 10 then 1 else 0) + Byt.nls (s.data.toList.drop (a + 1))) := by rw [hh.out, dropb s a hlt]; rfl
    by_cases hc : s[a].toNat = 10
    . have hc' : ((s[a].toNat : Int) == 10) = true := by simp; omega
      rw [if_pos hc] at hv
      have HV := hide1 hv
      clear hv hh HT hc
      go_wp2
      go_round
      case rel => exact ⟨a + 1, n + 1, by omega, by omega, by go_num, by go_num, by show T = _; rw [HV.out]; omega⟩
      case measure => exact zq191
    . have hc' : ((s[a].toNat : Int) == 10) = false := by simp; omega
      rw [if_neg hc] at hv
      have HV := hide1 hv
      clear hv hh HT hc
      go_wp2
      go_round
      case rel => exact ⟨a + 1, n, by omega, by omega, rfl, by go_num, by show T = _; rw [HV.out]; omega⟩
      case measure => exact zq191
  . have hlt' : decide ((a : Int) < (s.size : Int)) = false := by simp; omega
    have hT : Hid (T = n) := (by rw [hh.out, List.drop_eq_nil_of_le (by simp; omega)]; rfl : T = n)
    clear hh HT
    exact zq194
structure Cx (w : World) (b o : Nat) (l : Ln) : Prop where
 c0 : w.cell? ⟨b, o, none⟩ = some (.string ⟨l.nm.toArray⟩)
 c1 : w.cell? ⟨b, o + 1, none⟩ = some (.int .i64 l.i.op)
 c2 : w.cell? ⟨b, o + 2, none⟩ = some (.int .i64 l.i.rd)
 c3 : w.cell? ⟨b, o + 3, none⟩ = some (.int .i64 l.i.rs1)
 c4 : w.cell? ⟨b, o + 4, none⟩ = some (.int .i64 l.i.rs2)
 c5 : w.cell? ⟨b, o + 5, none⟩ = some (.int .i64 l.i.im)
 c6 : w.cell? ⟨b, o + 6, none⟩ = some (.int .i64 l.i.ln)
 c7 : w.cell? ⟨b, o + 7, none⟩ = some (.string ⟨l.tg.toArray⟩)
def LnsAt (w : World) (p : Option Addr) (L : List Ln) : Prop := L = [] \/ ∃ b, p = some ⟨b, 0, none⟩ /\ ∀ j (h : j < L.length), Cx w b (j * 8) L[j]
theorem findN_drop (L : List Ln) (n : List UInt8) (a : Nat) (h : a < L.length) : a + Byt.findN (L.drop a) n = if L[a].nm = n then a else (a + 1) + Byt.findN (L.drop (a + 1)) n := by
 rw [List.drop_eq_getElem_cons h]; simp only [Byt.findN]; split <;> omega
theorem a_findName (p : Option Addr) (cap : Nat) (L : List Ln) (hL : L.length <= 5000) (s : ByteArray) (w : World) (hw : Hid (LnsAt w p L)) :
 CS 153 #[.slice p L.length cap, .string s] (.int .i64 (Byt.findN L s.data.toList)) w := by
 obtain ⟨T, hT⟩ := zn1 (Byt.findN L s.data.toList)
 rw [<- hT]
 have HT := hide1 hT
 clear hT
 go_enter func153, ntmps153
 go_wp2
 go_loop [5] (fun d => ∃ a : Nat, a <= L.length /\ d = .int .i64 a /\ Hid (T = a + Byt.findN (L.drop a) s.data.toList)) (fun d => L.length - (intOf d).toNat)
 case atStart => exact ⟨0, by omega, rfl, by simpa using HT⟩
 case round =>
  obtain ⟨a, ha, rfl, hh⟩ := hrel
  by_cases hlt : a < L.length
  . rcases hw.out with h0 | ⟨b, rfl, hcx⟩
    . exact zq354
    have h0 := (hcx a hlt).c0
    rw [findN_drop L _ a hlt] at hh
    clear hcx hw HT
    obtain ⟨X, hX⟩ := zn1 (⟨L[a].nm.toArray⟩ : ByteArray)
    have he := eq_str s X _ hX
    rw [<- hX] at h0
    by_cases hc : s.data.toList = L[a].nm
    . rw [if_pos hc.symm] at hh
      rw [decide_eq_true hc] at he
      have he' : (X.toList == s.toList) = true := by rw [beq_iff_eq] at he |-; exact he.symm
      clear hc hX he
      go_wp2
      go_ret
      exact ⟨by rw [hh.out]; rfl, rfl⟩
    . rw [if_neg (fun h => hc h.symm)] at hh
      rw [decide_eq_false hc] at he
      have he' : (X.toList == s.toList) = false := by rw [beq_eq_false_iff_ne] at he |-; exact fun h => he h.symm
      clear hc hX he
      go_wp2
      go_round
      case rel => exact ⟨a + 1, by omega, by go_num, hh⟩
      case measure => exact zq191
  . have hT : Hid (T = L.length) := (by rw [hh.out, List.drop_eq_nil_of_le (by omega)]; simp [Byt.findN]; omega : T = L.length)
    clear hh HT hw
    exact zq194
theorem place_drop (L : List Ln) (n a : Nat) (h1 : a < L.length) (h2 : a < n) : Byt.place (L.drop a) (n - a) = L[a].i.ln + Byt.place (L.drop (a + 1)) (n - (a + 1)) := by
 rw [List.drop_eq_getElem_cons h1, show n - a = (n - (a + 1)) + 1 by omega]; rfl
def Tidy (L : List Ln) : Prop := ∀ l ∈ L, l.i.ln = 0 \/ l.i.ln = 2 \/ l.i.ln = 4
theorem a_placeOf (p : Option Addr) (cap : Nat) (L : List Ln) (hL : L.length <= 5000) (hd : Hid (Tidy L)) (n : Nat) (hn : n <= 5000) (w : World) (hw : Hid (LnsAt w p L)) :
 CS 154 #[.slice p L.length cap, .int .i64 n] (.int .i64 (Byt.place L n)) w := by
 obtain ⟨T, hT⟩ := zn1 (Byt.place L n)
 rw [<- hT]
 have HT := hide1 hT
 clear hT
 go_enter func154, ntmps154
 go_wp2
 go_loop [5, 6] (fun c d => ∃ (a : Nat) (q : Nat), a <= L.length /\ a <= n /\ q <= 4 * a /\ c = .int .i64 q /\ d = .int .i64 a /\ Hid (T = q + Byt.place (L.drop a) (n - a))) (fun _ d => L.length - (intOf d).toNat)
 case atStart => exact ⟨0, 0, by omega, by omega, by omega, rfl, rfl, by simpa using HT⟩
 case round =>
  obtain ⟨a, q, ha, han, hq, rfl, rfl, hh⟩ := hrel
  by_cases hlt : a < L.length
  . by_cases hln : a < n
    . rcases hw.out with h0 | ⟨b, rfl, hcx⟩
      . exact zq354
      have h0 := (hcx a hlt).c6
      rw [place_drop L n a hlt hln] at hh
      have hz := hd.out L[a] (List.getElem_mem hlt)
      obtain ⟨z, hz', hz4⟩ : ∃ z : Nat, L[a].i.ln = z /\ z <= 4 := ⟨L[a].i.ln.toNat, by omega, by omega⟩
      rw [hz'] at h0 hh
      clear hcx hw HT hd hz hz'
      go_wp2
      go_round
      case rel => exact ⟨a + 1, q + z, by omega, by omega, by omega, by go_num, by go_num, by show T = _; rw [hh.out]; simp; omega⟩
      case measure => exact zq191
    . have hT : Hid (T = q) := (by rw [hh.out, show n - a = 0 by omega]; cases L.drop a <;> simp [Byt.place] : T = q)
      clear hh HT hw hd
      exact zq194
  . have hT : Hid (T = q) := (by rw [hh.out, List.drop_eq_nil_of_le (by omega)]; simp [Byt.place] : T = q)
    clear hh HT hw hd
    go_wp2
    all_goals go_ret
    all_goals exact ⟨by rw [hT.out]; rfl, rfl⟩
theorem a_dataOf (v a b : Int) (w : World) :
 CS 223 #[.int .i64 v, .int .i64 a, .int .i64 b] (.tuple #[.int .i64 (if v < a \/ b < v then 0 else v), .int .i64 (if v < a \/ b < v then 7 else 0)]) w := by
 by_cases h1 : v < a
 . rw [if_pos (Or.inl h1), if_pos (Or.inl h1)]
   exact zq355
 . by_cases h2 : b < v
   . rw [if_pos (Or.inr h2), if_pos (Or.inr h2)]
     exact zq355
   . rw [if_neg (by omega), if_neg (by omega)]
     exact zq355
theorem shapes_ok : ((List.range 73).all fun n => decide ((Nm.shape n).size <= 8) && (Nm.shape n).data.toList.all fun c => c.toNat == 100 || c.toNat == 115 || c.toNat == 116 || c.toNat == 109 || c.toNat == 106 || c.toNat == 117 || c.toNat == 105) = true := by decide +kernel
theorem shape_ok (n : Nat) (h : n <= 72) : (Nm.shape n).size <= 8 /\ ∀ k (h : k < (Nm.shape n).size), (Nm.shape n)[k].toNat = 100 \/ (Nm.shape n)[k].toNat = 115 \/ (Nm.shape n)[k].toNat = 116 \/ (Nm.shape n)[k].toNat = 109 \/ (Nm.shape n)[k].toNat = 106 \/ (Nm.shape n)[k].toNat = 117 \/ (Nm.shape n)[k].toNat = 105 := by
 have h1 := List.all_eq_true.1 shapes_ok n (by simp; omega)
 rw [Bool.and_eq_true, decide_eq_true_eq, List.all_eq_true] at h1
 refine ⟨h1.1, fun k hk => ?_⟩
 have h2 := h1.2 (Nm.shape n)[k] (by
  have : (Nm.shape n)[k] = (Nm.shape n).data.toList[k]'(by rw [Array.length_toList]; exact hk) := rfl
  rw [this]; exact List.getElem_mem _)
 simp only [Bool.or_eq_true, beq_iff_eq] at h2
 omega
theorem wrdFrom_le (t : List UInt8) : ∀ f op, (Byt.wrdFrom t f op).1 < op + f \/ (Byt.wrdFrom t f op) = (0, 0)
 | 0, op => .inr rfl
 | f + 1, op => by
  have ih := wrdFrom_le t f (op + 1)
  unfold Byt.wrdFrom
  split
  . left; simp
  . split
    . left; simp
    . rcases ih with h | h
      . left; omega
      . right; exact h
theorem wrd_le (t : List UInt8) : (Byt.wrd t).1 <= 72 := by
 unfold Byt.wrd
 split
 . decide
 . split
   . decide
   . rcases wrdFrom_le t 70 1 with h | h
     . omega
     . rw [h]; decide
theorem slice_drop (b o cap : Nat) (L : List (List UInt8)) (k : Nat) (n : Int) (hn : n = k) (hk : k <= L.length) (hcap : L.length <= cap) : ∃ o' cap', (∀ w, (Instr.slice 162 (.slice (some ⟨b, o, none⟩) L.length cap) (some (.int .i64 n)) none none).run prog w = .ok (.slice (some ⟨b, o', none⟩) (L.drop k).length cap') w) /\ (L.drop k).length <= cap' /\ (∀ w, StrsAt w b o L -> StrsAt w b o' (L.drop k)) := by
 have hr : ∀ w, (Instr.slice 162 (.slice (some ⟨b, o, none⟩) L.length cap) (some (.int .i64 n)) none none).run prog w = .ok (.slice (if cap = k then some ⟨b, o, none⟩ else some ⟨b, o + k, none⟩) (L.drop k).length (cap - k)) w := by
  intro w
  have hu : prog.underlying 162 = some (.slice (prog.elem 162)) := by kernel_rfl
  have h := run_slice_l (P := prog) w 162 (some ⟨b, o, none⟩) L.length cap hu .i64 n (by omega) (by omega)
  rw [h]
  have hz : (_root_.Go.sizeOf (prog.elem 162)).run prog w = .ok 1 w := by kernel_rfl
  rw [hz]
  simp only [Result.andThen, sliced, List.length_drop]
  rw [show n.toNat = k by omega, Nat.mul_one, Option.map_some, show (⟨b, o, none⟩ : Addr).add k = ⟨b, o + k, none⟩ by simp [Addr.add]]
 by_cases hc : cap = k
 . refine ⟨o, cap - k, fun w => by rw [hr w, if_pos hc], by rw [List.length_drop]; omega, fun w _ j hj => ?_⟩
   rw [List.length_drop] at hj; omega
 . exact ⟨o + k, cap - k, fun w => by rw [hr w, if_neg hc], by rw [List.length_drop]; omega, fun w h => h.drop k⟩
theorem Cx.below {w w' : World} {b o n : Nat} {l : Ln} (h : Cx w b o l) (hb : Below n w w') (hn : b < n) : Cx w' b o l :=
 ⟨(hb.cell (p := ⟨b, o, none⟩) hn).trans h.c0, (hb.cell (p := ⟨b, o + 1, none⟩) hn).trans h.c1, (hb.cell (p := ⟨b, o + 2, none⟩) hn).trans h.c2, (hb.cell (p := ⟨b, o + 3, none⟩) hn).trans h.c3, (hb.cell (p := ⟨b, o + 4, none⟩) hn).trans h.c4, (hb.cell (p := ⟨b, o + 5, none⟩) hn).trans h.c5, (hb.cell (p := ⟨b, o + 6, none⟩) hn).trans h.c6, (hb.cell (p := ⟨b, o + 7, none⟩) hn).trans h.c7⟩
theorem LnsAt.below {w w' : World} {p : Option Addr} {n : Nat} {L : List Ln} (h : LnsAt w p L) (hb : Below n w w') (hn : ∀ a, p = some a -> a.block < n) : LnsAt w' p L := by
 rcases h with h | ⟨b, rfl, h⟩
 . exact .inl h
 . exact .inr ⟨b, rfl, fun j hj => (h j hj).below hb (hn _ rfl)⟩
theorem readR_no (nm : List UInt8) (t : List UInt8) (LT : List (List UInt8)) (h : (Byt.wrd t).2 = 0) : Byt.readR nm (t :: LT) = (5, ln0) := by
 unfold Byt.readR; simp only; rw [if_pos h]
theorem readR_bad (nm : List UInt8) (t : List UInt8) (LT : List (List UInt8)) (h : ¬ (Byt.wrd t).2 = 0) (ho : Byt.opsP (Byt.shp (Byt.wrd t).1) false ⟨(Byt.wrd t).1, 0, 0, 0, 0, (Byt.wrd t).2⟩ [] LT = none) : Byt.readR nm (t :: LT) = (6, ln0) := by
 unfold Byt.readR; simp only; rw [if_neg h, ho]
theorem readR_yes (nm : List UInt8) (t : List UInt8) (LT : List (List UInt8)) (h : ¬ (Byt.wrd t).2 = 0) {i : Ins} {g : List UInt8} (ho : Byt.opsP (Byt.shp (Byt.wrd t).1) false ⟨(Byt.wrd t).1, 0, 0, 0, 0, (Byt.wrd t).2⟩ [] LT = some (i, g)) : Byt.readR nm (t :: LT) = (0, ⟨nm, i, g⟩) := by
 unfold Byt.readR; simp only; rw [if_neg h, ho]
theorem readLn_not {L : List (List UInt8)} {E : List Ln} (h : ¬ (1 < L.length /\ L[1]?.getD [] = [58])) : Byt.readLn L E = Byt.readR [] L := by
 unfold Byt.readLn; rw [if_neg h]
theorem readLn_word {L : List (List UInt8)} {E : List Ln} (h : 1 < L.length /\ L[1]?.getD [] = [58]) (hn : ¬ Byt.isName (L[0]?.getD []) = true) : Byt.readLn L E = (5, ln0) := by
 unfold Byt.readLn; rw [if_pos h, if_neg hn]
theorem readLn_twice {L : List (List UInt8)} {E : List Ln} (h : 1 < L.length /\ L[1]?.getD [] = [58]) (hn : Byt.isName (L[0]?.getD []) = true) (hf : Byt.findN E (L[0]?.getD []) < E.length) : Byt.readLn L E = (9, ln0) := by
 unfold Byt.readLn; rw [if_pos h, if_pos hn, if_pos hf]
theorem readLn_yes {L : List (List UInt8)} {E : List Ln} (h : 1 < L.length /\ L[1]?.getD [] = [58]) (hn : Byt.isName (L[0]?.getD []) = true) (hf : ¬ Byt.findN E (L[0]?.getD []) < E.length) : Byt.readLn L E = Byt.readR (L[0]?.getD []) (L.drop 2) := by
 unfold Byt.readLn; rw [if_pos h, if_pos hn, if_neg hf]
theorem a_readLine (b o cap : Nat) (L : List (List UInt8)) (hL : L.length <= 5000) (hcap : L.length <= cap) (p : Option Addr) (cape : Nat) (E : List Ln) (hE : E.length <= 5000) (w : World) (hw : Hid (StrsAt w b o L)) (hb : b < w.heap.size) (hs : Hid (Short L)) (he : Hid (LnsAt w p E)) (hp : Hid (∀ a, p = some a -> a.block < w.heap.size)) :
 CB 152 #[.slice (some ⟨b, o, none⟩) L.length cap, .slice p E.length cape] (.tuple #[lnV (Byt.readLn L E).2, .int .i64 (Byt.readLn L E).1]) w := by
 obtain ⟨T, hT⟩ := zn1 (Byt.readLn L E)
 rw [<- hT]
 have HT := hide1 hT
 clear hT
 obtain ⟨NM, hNM⟩ := zn1 (⟨#[]⟩ : ByteArray)
 go_enter func152, ntmps152
 by_cases h1 : 1 < L.length
 . have h1' : decide (1 < (L.length : Int)) = true := by simp; omega
   have c1 := hw.out 1 h1
   obtain ⟨X1, hX1⟩ := zn1 (⟨(L[1]).toArray⟩ : ByteArray)
   have c1' : w.cell? ⟨b, o + 1, none⟩ = some (.string X1) := by rw [c1, hX1]; rfl
   have g1 : L[1]?.getD [] = X1.data.toList := by rw [hX1, List.getElem?_eq_getElem h1]; rfl
   have q1 : (X1.toList == [58]) = decide (X1.data.toList = [58]) := eq_lit X1 [58]
   clear c1 hX1
   by_cases k1 : X1.data.toList = [58]
   . rw [decide_eq_true k1] at q1
     have c0 := hw.out 0 (by omega)
     obtain ⟨X0, hX0⟩ := zn1 (⟨(L[0]).toArray⟩ : ByteArray)
     have c0' : w.cell? ⟨b, o, none⟩ = some (.string X0) := by rw [<- Nat.add_zero o, c0, hX0]; rfl
     have hm : (L[0]'(by omega)).length <= 5000 := hs.out _ (List.getElem_mem _)
     have s0 : X0.size <= 5000 := by rw [hX0]; exact hm
     have g0 : L[0]?.getD [] = X0.data.toList := by rw [hX0, List.getElem?_eq_getElem (by omega)]; rfl
     have hX0' : X0 = ⟨X0.data.toList.toArray⟩ := (mk_list X0).symm
     have HNM := hide1 hX0'
     clear c0 hX0 hm hX0'
     obtain ⟨o2, cap2, hsl, hc2, hst⟩ := slice_drop b o cap L 2 2 rfl (by omega) hcap
     have HST := hide1 (hst w hw.out)
     have HSD : Hid (Short (L.drop 2)) := fun t ht => hs.out t (List.mem_of_mem_drop ht)
     have hlD : (L.drop 2).length <= 5000 := by rw [List.length_drop]; omega
     have hco : 1 < L.length /\ L[1]?.getD [] = [58] := ⟨h1, by rw [g1]; exact k1⟩
     have HG := hide1 (And.intro hco g0)
     obtain ⟨LD, hLD⟩ := zn1 (L.drop 2)
     have HLD := hide1 hLD
     rw [<- hLD] at HST HSD hlD hsl hc2
     have hcD := hc2
     clear hLD hst hc2 g1 k1 hco g0
     cases kn : Byt.isName X0.data.toList
     . have hT : Hid (T = (5, ln0)) := by
        show T = _
        rw [HT.out]
        exact readLn_word HG.out.1 (by rw [HG.out.2, kn]; decide)
       go_wp2_with fail
       refine (a_isName X0 s0 _).mono ?_
       rintro e w1 ⟨rfl, rfl⟩
       rw [kn]
       clear q1 c1'
       exact zq356
     . have hbw : Below w.heap.size w (w.alloc (lnC ⟨#[]⟩ ins0 ⟨#[]⟩)) := zq135
       have hfn := a_findName p cape E hE X0 _ (hide1 (he.out.below hbw hp.out))
       obtain ⟨F, hF⟩ := zn1 (Byt.findN E X0.data.toList)
       rw [<- hF] at hfn
       have HF := hide1 hF
       have HFN := hide1 hfn
       unfold lnC ins0 at HFN
       clear hfn hF hbw
       by_cases hfe : F < E.length
       . have hT : Hid (T = (9, ln0)) := by
          show T = _
          rw [HT.out]
          exact readLn_twice HG.out.1 (by rw [HG.out.2, kn]) (by rw [HG.out.2, <- HF.out]; exact hfe)
         have hfe' : decide ((F : Int) < (E.length : Int)) = true := by simp; omega
         go_wp2_with fail
         refine (a_isName X0 s0 _).mono ?_
         rintro e w1 ⟨rfl, rfl⟩
         rw [kn]
         clear q1 c1'
         go_wp2_with fail
         refine HFN.out.mono ?_
         rintro e w1 ⟨rfl, rfl⟩
         go_wp2
         refine bodyPost_ret (v := .tuple #[lnA ⟨#[]⟩ ins0 ⟨#[]⟩, .int .i64 9]) zq536 rfl ⟨by rw [hT.out] <;> rfl, ?_⟩
         exact zq357
       . have HR : Hid (T = Byt.readR X0.data.toList LD) := by
          show T = _
          rw [HT.out, HLD.out, <- HG.out.2]
          exact readLn_yes HG.out.1 (by rw [HG.out.2, kn]) (by rw [HG.out.2, <- HF.out]; exact hfe)
         have hfe' : decide ((F : Int) < (E.length : Int)) = false := by simp; omega
         go_wp2_with fail
         refine (a_isName X0 s0 _).mono ?_
         rintro e w1 ⟨rfl, rfl⟩
         rw [kn]
         clear q1 c1'
         go_upto_region 7 with fail
         go_wp2_with fail
         refine HFN.out.mono ?_
         rintro e w1 ⟨rfl, rfl⟩
         clear HFN HF kn HG HLD HT c0' s0
         go_upto_region 9 with fail
         clear hfe hfe' h1 h1' hsl
         cases LD with
         | nil =>
          have hT : Hid (T = (0, ⟨X0.data.toList, ins0, []⟩)) := HR
          clear HR
          go_wp2
          refine bodyPost_ret (v := .tuple #[lnA X0 ins0 ⟨#[]⟩, .int .i64 0]) zq536 rfl ⟨by rw [hT.out] <;> simp only [lnV] <;> (first | rfl | rw [<- HNM.out]), ?_⟩
          repeat (first | with_reducible exact Below.refl _ _ | with_reducible exact HB1.out | (with_reducible refine Below.setCell ?_ (by simp) _) | (with_reducible refine Below.alloc ?_ (by simp) _))
         | cons t LT =>
          have c0 := HST.out 0 (by simp)
          obtain ⟨X, hX⟩ := zn1 (⟨t.toArray⟩ : ByteArray)
          have d0 : w.cell? ⟨b, o2, none⟩ = some (.string X) := by rw [<- Nat.add_zero o2, c0, hX]; rfl
          have hXt : X.data.toList = t := by rw [hX]
          have hrw := a_readWord X
          obtain ⟨o3, cap3, hsl3, hc3, hst3⟩ := slice_drop b o2 cap2 (t :: LT) 1 1 rfl (by simp) hcD
          have hst3' := hst3 w HST.out
          simp only [List.drop_succ_cons, List.drop_zero] at hsl3 hc3 hst3'
          rw [hXt] at hrw
          obtain ⟨V, hV⟩ := zn1 (Byt.wrd t)
          have hV72 : V.1 <= 72 := by rw [hV]; exact wrd_le t
          rw [<- hV] at hrw
          obtain ⟨op, sz⟩ := V
          have HRW := hide1 hrw
          have HV := hide1 hV
          have HST3 := hide1 hst3'
          simp only [List.length_cons] at hlD hcD hsl3
          have hne : ((LT.length : Int) + 1 == 0) = false := by simp; omega
          have hne2 : (LT.length + 1 == 0) = false := by simp
          clear c0 hst3 hst3' hrw hV hX hXt HST
          by_cases hz : sz = 0
          . exact zq358
          . have hz' : ((sz : Int) == 0) = false := by simp; omega
            have hz2 : (sz == 0) = false := by simp; omega
            have hT3 : ∀ O, O = Byt.opsP (Byt.shp op) false ⟨op, 0, 0, 0, 0, sz⟩ [] LT -> (O = none -> T = (6, ln0)) /\ (∀ i g, O = some (i, g) -> T = (0, ⟨X0.data.toList, i, g⟩)) := by
             intro O hO
             have e1 : (Byt.wrd t).1 = op := by rw [<- HV.out]
             have e2 : (Byt.wrd t).2 = sz := by rw [<- HV.out]
             refine ⟨fun h => ?_, fun i g h => ?_⟩
             . exact zq359
             . exact zq360
            obtain ⟨S, hS⟩ := zn1 (Nm.shape op)
            have hs8 := (shape_ok op hV72).1
            have hsl := (shape_ok op hV72).2
            rw [<- hS] at hs8
            have hbw : Below w.heap.size w (w.alloc (lnC ⟨#[]⟩ ins0 ⟨#[]⟩)) := zq135
            have hcall := a_readOperands X0 ⟨op, 0, 0, 0, 0, sz⟩ [] S (hide1 hS.symm) hs8 (by rw [hS]; exact hide1 hsl) b o3 cap3 LT (by omega) _ (StrsAt.more HST3 hb hbw) (Nat.lt_of_lt_of_le hb hbw.size) (hide1 (fun t ht => HSD.out t (List.mem_cons_of_mem _ ht)))
            obtain ⟨O, hO⟩ := zn1 (Byt.opsP (S.data.toList.map UInt8.toNat) false ⟨op, 0, 0, 0, 0, sz⟩ [] LT)
            rw [<- hO, lnO_parts] at hcall
            have hTO := hT3 O (by rw [hO, hS]; rfl)
            have hnz := (Bx.new w ⟨#[]⟩ ins0 ⟨#[]⟩)
            have HCALL := hide1 (hcall.mono fun e w1 h => (⟨h.1, hide1 (hbw.trans (h.2.mono hbw.size)), hide1 (hnz.more h.2 hnz.lt)⟩ : _ /\ Hid (Below w.heap.size w w1) /\ Hid (Bx w1 w.heap.size ⟨#[]⟩ ins0 ⟨#[]⟩)))
            have HTO := hide1 hTO
            unfold lnA lnC ins0 at HCALL
            clear hT3 hs8 hsl hbw hcall hnz hTO hS hO HR HST3 HSD HV hw hs he hp
            go_wp2_with fail
            refine (HRW.out _).mono ?_
            rintro e w1 ⟨rfl, rfl⟩
            go_wp2_with fail
            refine HCALL.out.mono ?_
            rintro e w1 ⟨rfl, HB1, hz0⟩
            clear HCALL HRW
            have HBS : Hid (w.heap.size < w1.heap.size) := hz0.out.lt
            have y0 := hz0.out.c0
            have y1 := hz0.out.c1
            have y2 := hz0.out.c2
            have y3 := hz0.out.c3
            have y4 := hz0.out.c4
            have y5 := hz0.out.c5
            have y6 := hz0.out.c6
            have y7 := hz0.out.c7
            have yf := hz0.out.fro
            have yl := hz0.out.lt
            cases O with
            | none =>
             have hT := hide1 (HTO.out.1 rfl)
             clear HTO
             go_wp2
             refine bodyPost_ret (v := .tuple #[lnA ⟨#[]⟩ ins0 ⟨#[]⟩, .int .i64 6]) zq537 rfl ⟨by rw [hT.out] <;> rfl, ?_⟩
             repeat (first | with_reducible exact Below.refl _ _ | with_reducible exact HB1.out | (with_reducible refine Below.setCell ?_ (by simp) _) | (with_reducible refine Below.alloc ?_ zq538 _))
            | some r =>
             obtain ⟨i1, g1⟩ := r
             have hT := hide1 (HTO.out.2 i1 g1 rfl)
             clear HTO
             obtain ⟨G1, hG1⟩ := zn1 (oG (some (i1, g1)))
             have HG1 : Hid (G1 = ⟨g1.toArray⟩) := hG1
             have e1 : oN X0 (some (i1, g1)) = X0 := rfl
             have e2 : oI (some (i1, g1)) = i1 := rfl
             rw [<- hG1, e1, e2]
             clear hG1 e1 e2
             go_wp2
             refine bodyPost_ret (v := .tuple #[lnA X0 i1 G1, .int .i64 0]) zq537 rfl ⟨by rw [hT.out]; simp only [lnV]; rw [<- HG1.out] <;> (first | rfl | rw [<- HNM.out]), ?_⟩
             repeat (first | with_reducible exact Below.refl _ _ | with_reducible exact HB1.out | (with_reducible refine Below.setCell ?_ (by simp) _) | (with_reducible refine Below.alloc ?_ zq538 _))
   . rw [decide_eq_false k1] at q1
     have HR : Hid (T = Byt.readR [] L) := by
      show T = _
      rw [HT.out]
      exact readLn_not (fun h => k1 (by rw [<- g1]; exact h.2))
     have HST := hw
     have hcD := hcap
     have hlD := hL
     have HSD := hs
     have HNM := hide1 hNM
     go_upto_region 9 with fail
     clear q1 c1' k1 g1 h1 h1' hL hcap hNM HT
     exact zq361
 . have h1' : decide (1 < (L.length : Int)) = false := by simp; omega
   have HR : Hid (T = Byt.readR [] L) := by
    show T = _
    rw [HT.out]
    exact readLn_not (fun h => h1 h.1)
   have HST := hw
   have hcD := hcap
   have hlD := hL
   have HSD := hs
   have HNM := hide1 hNM
   go_upto_region 9 with fail
   clear h1 h1' hL hcap hNM HT
   exact zq361
def lnL (l : Ln) : List Value := [.string ⟨l.nm.toArray⟩, .int .i64 l.i.op, .int .i64 l.i.rd, .int .i64 l.i.rs1, .int .i64 l.i.rs2, .int .i64 l.i.im, .int .i64 l.i.ln, .string ⟨l.tg.toArray⟩]
def lnR (E : List Ln) : List Value := E.flatMap lnL
theorem lnR_app (E : List Ln) (l : Ln) : lnR (E ++ [l]) = lnR E ++ lnL l := by simp [lnR]
theorem lnR_get : ∀ (E : List Ln) (j : Nat) (h : j < E.length) (f : Nat), f < 8 -> (lnR E)[j * 8 + f]? = (lnL E[j])[f]?
 | [], j, h, f, hf => by simp at h
 | l :: E, 0, h, f, hf => by
  have : lnR (l :: E) = lnL l ++ lnR E := by simp [lnR]
  rw [this, Nat.zero_mul, Nat.zero_add, List.getElem?_append_left (by simp [lnL]; omega)]; rfl
 | l :: E, j + 1, h, f, hf => by
  have : lnR (l :: E) = lnL l ++ lnR E := by simp [lnR]
  have hl : (lnL l).length = 8 := rfl
  rw [this, List.getElem?_append_right (by rw [hl]; omega), hl, show (j + 1) * 8 + f - 8 = j * 8 + f by omega, lnR_get E j (by simpa using h) f hf]; rfl
theorem own_more {W W' : World} {B e size n : Nat} {v : Value} {xs : List Value} (h : W.ownsRow B e size v n xs) (hb : Below W.heap.size W W') : W'.ownsRow B e size v n xs := by
 refine ⟨h.1, ?_⟩
 rcases h.2 with h' | ⟨g, cap, cur, hv, hB, hg, h1, h2, h3, h4⟩
 . exact .inl h'
 . exact .inr ⟨g, cap, cur, hv, hB, by rw [hb.block g (Array.getElem?_eq_some_iff.1 hg).1]; exact hg, h1, h2, h3, h4⟩
theorem lns_own {w : World} {base : Nat} {v : Value} {E : List Ln} (h : w.ownsRow base 165 8 v E.length (lnR E)) (hn : v ≠ .slice none 0 0) :
 ∃ g cap, v = .slice (some ⟨g, 0, none⟩) E.length cap /\ base <= g /\ g < w.heap.size /\ LnsAt w (some ⟨g, 0, none⟩) E := by
 rcases h.2 with ⟨hv, _⟩ | ⟨g, cap, cur, rfl, hb, hg, hrest⟩
 . exact absurd hv hn
 . refine ⟨g, cap, rfl, hb, (Array.getElem?_eq_some_iff.1 hg).1, .inr ⟨g, rfl, fun j hj => ?_⟩⟩
   have hc : ∀ f, f < 8 -> w.cell? ⟨g, j * 8 + f, none⟩ = (lnL E[j])[f]? := fun f hf => by rw [h.cellAt (j * 8 + f) (by omega), lnR_get E j hj f hf]
   exact ⟨hc 0 (by omega), hc 1 (by omega), hc 2 (by omega), hc 3 (by omega), hc 4 (by omega), hc 5 (by omega), hc 6 (by omega), hc 7 (by omega)⟩
theorem tok_len : ∀ (f : Nat) (l : List UInt8), (Byt.tok f l).length <= l.length /\ ∀ t ∈ Byt.tok f l, t.length <= l.length
 | 0, l => ⟨by simp [Byt.tok], by simp [Byt.tok]⟩
 | f + 1, [] => ⟨by simp [Byt.tok], by simp [Byt.tok]⟩
 | f + 1, c :: l => by
  simp only [Byt.tok]
  have h0 := tok_len f l
  split
  . exact ⟨by simp, by simp⟩
  . split
    . next hr =>
      have h1 := tok_len f ((c :: l).drop (Byt.rowEnd (c :: l)))
      have hre := rowEnd_le (c :: l)
      rw [List.length_drop] at h1
      refine ⟨by rw [List.length_cons]; omega, fun t ht => ?_⟩
      rcases List.mem_cons.1 ht with rfl | ht
      . rw [List.length_take]; omega
      . have := h1.2 t ht; omega
    . split
      . exact ⟨by have := h0.1; rw [List.length_cons]; omega, fun t ht => by have := h0.2 t ht; rw [List.length_cons]; omega⟩
      . refine ⟨by have := h0.1; simp only [List.length_cons]; omega, fun t ht => ?_⟩
        rcases List.mem_cons.1 ht with rfl | ht
        . simp
        . have := h0.2 t ht; rw [List.length_cons]; omega
theorem a_tokens2 (s : ByteArray) (hs : s.size <= 5000) (w : World) :
 Calls prog 151 #[.string s] w fun e w' => ∃ b cap, e = .returned (.slice (some ⟨b, 0, none⟩) (Byt.tok s.size s.data.toList).length cap) /\ (Byt.tok s.size s.data.toList).length <= cap /\ b < w'.heap.size /\ Hid (StrsAt w' b 0 (Byt.tok s.size s.data.toList)) /\ Below w.heap.size w w' := by
 refine (a_tokens s hs w).mono ?_
 rintro e w' ⟨v, rfl, hn, hown, hb⟩
 have h2 := hown.2
 obtain ⟨b, cap, rfl, h1, h2', h3⟩ := StrsAt.of_row hown hn
 refine ⟨b, cap, rfl, ?_, h2', h3, hb⟩
 rcases h2 with ⟨hv, _⟩ | ⟨g, cap', cur, hv, _, _, hc, _⟩
 . exact absurd hv hn
 . simp only [Value.slice.injEq] at hv
   rw [hv.2.2]; exact hc
theorem take_more (s : ByteArray) (bg e : Nat) (h : e < s.size) (hb : bg <= e) : (s.data.toList.take (e + 1)).drop bg = (s.data.toList.take e).drop bg ++ [s[e]] := by
 have hl : e < s.data.toList.length := by rw [Array.length_toList]; exact h
 rw [List.take_add_one, List.getElem?_eq_getElem hl, List.drop_append_of_le_length (by rw [List.length_take]; omega)]
 rfl
theorem ext_list (s : ByteArray) (a b : Nat) : (s.extract a b).data.toList = (s.data.toList.take b).drop a := by
 have h := ext_str s a b
 unfold Byt.strV at h
 simp only [Value.string.injEq] at h
 rw [h, List.drop_take]
def Byt.from (s : ByteArray) (e bg : Nat) (E : List Ln) : List Ln × Int × Nat := if e <= s.size then Byt.readAll E (Byt.segs ((s.data.toList.take e).drop bg) (s.data.toList.drop e)) else (E, 0, 0)
theorem from_on (s : ByteArray) (e bg : Nat) (E : List Ln) (he : e < s.size) (hb : bg <= e) (hc : ¬ s[e].toNat = 10) : Byt.from s e bg E = Byt.from s (e + 1) bg E := by
 unfold Byt.from
 rw [if_pos (by omega), if_pos (by omega), take_more s bg e he hb, dropb s e he]
 simp only [Byt.segs]; rw [if_neg hc]
theorem from_end (s : ByteArray) (e bg : Nat) (E : List Ln) (X : ByteArray) (hX : X.data.toList = (s.data.toList.take e).drop bg) (he : e = s.size \/ ∃ h : e < s.size, s[e].toNat = 10) (Z : Int × Ln) (hZ : Byt.readLn (Byt.tok X.size X.data.toList) E = Z) : Byt.from s e bg E = if Z.1 = 0 then Byt.from s (e + 1) (e + 1) (E ++ [Z.2]) else ([], Z.1, E.length + 1) := by
 have hsz : X.size = X.data.toList.length := by rw [Array.length_toList]; rfl
 have hle : e <= s.size := by rcases he with h | ⟨h, _⟩ <;> omega
 have h1 : Byt.from s e bg E = Byt.readAll E (Byt.segs X.data.toList (s.data.toList.drop e)) := by unfold Byt.from; rw [if_pos hle, hX]
 rw [h1]
 rcases he with h | ⟨h, hc⟩
 . have h2 : ∀ E, Byt.from s (e + 1) (e + 1) E = (E, 0, 0) := fun E => by unfold Byt.from; rw [if_neg (by omega)]
   have h3 : s.data.toList.drop e = [] := List.drop_eq_nil_of_le (by rw [Array.length_toList, h]; exact Nat.le_refl _)
   rw [h2, h3]
   simp only [Byt.segs, Byt.readAll]
   rw [<- hsz, hZ]
 . have h4 : (s.data.toList.take (e + 1)).drop (e + 1) = [] := List.drop_eq_nil_of_le (by rw [List.length_take]; omega)
   have h2 : ∀ E, Byt.from s (e + 1) (e + 1) E = Byt.readAll E (Byt.segs [] (s.data.toList.drop (e + 1))) := fun E => by unfold Byt.from; rw [if_pos (by omega), h4]
   rw [h2, dropb s e h]
   simp only [Byt.segs]
   rw [if_pos hc]
   simp only [Byt.readAll]
   rw [<- hsz, hZ]
theorem a_readLines (s : ByteArray) (hs : s.size <= 4096) (w : World) :
 Calls prog 114 #[.string s] w fun e w' => (∃ v, e = .returned (.tuple #[v, .int .i64 (Byt.readAll [] (Byt.segs [] s.data.toList)).2.1, .int .i64 (Byt.readAll [] (Byt.segs [] s.data.toList)).2.2]) /\ ((Byt.readAll [] (Byt.segs [] s.data.toList)).2.1 = 0 -> ∃ p cap, v = .slice p (Byt.readAll [] (Byt.segs [] s.data.toList)).1.length cap /\ (Byt.readAll [] (Byt.segs [] s.data.toList)).1.length <= 5000 /\ (∀ a, p = some a -> a.block < w'.heap.size) /\ LnsAt w' p (Byt.readAll [] (Byt.segs [] s.data.toList)).1)) /\ Below w.heap.size w w' := by
 obtain ⟨R, hR⟩ := zn1 (Byt.readAll [] (Byt.segs [] s.data.toList))
 rw [<- hR]
 have HR : Hid (R = Byt.from s 0 0 []) := by
  show R = _
  rw [hR]; unfold Byt.from; rw [if_pos (Nat.zero_le _)]; rfl
 clear hR
 have hmk : ∀ w, (Instr.makeSlice 140 (.int .i64 0) (.int .i64 0)).run prog w = .ok (.slice (some ⟨w.heap.size, 0, none⟩) 0 0) (w.alloc (.cells #[] 165)) := fun _ => by kernel_rfl
 have hinfo : (prog.info? 165).map (fun i => (i.zero, i.size, i.bytes)) = some (some (lnA ⟨#[]⟩ ins0 ⟨#[]⟩), 8, 80) := by kernel_rfl
 obtain ⟨i0, hi, hz0, hz1, hz2⟩ := info_parts hinfo
 go_enter func114, ntmps114
 go_wp2
 go_loopw [5, 6, 7] (fun v b6 e7 wr => ∃ (e bg : Nat) (E : List Ln), e <= s.size + 1 /\ bg <= e /\ E.length <= e /\ e7 = .int .i64 e /\ b6 = .int .i64 bg /\ v ≠ .slice none 0 0 /\ Hid (wr.ownsRow w.heap.size 165 8 v E.length (lnR E)) /\ Hid (Below w.heap.size w wr) /\ Hid (R = Byt.from s e bg E)) (fun _ _ e7 _ => s.size + 1 - (intOf e7).toNat)
 case atStart => exact ⟨0, 0, [], by omega, by omega, by simp, rfl, rfl, by simp, hide1 (World.ownsRow_made w _ 0 (Nat.le_refl _) zq489 rfl), hide1 ((Below.refl _ _).alloc (Nat.le_refl _) _), HR⟩
 case round =>
  obtain ⟨e, bg, E, he, hbe, hEe, rfl, rfl, hnn, hown, hb, hh⟩ := hrel
  clear HR hmk
  by_cases hle : e <= s.size
  . by_cases hmid : ∃ h : e < s.size, ¬ s[e].toNat = 10
    . obtain ⟨hlt, hc⟩ := hmid
      have hc' : ((s[e].toNat : Int) != 10) = true := by simp; omega
      rw [from_on s e bg E hlt hbe hc] at hh
      clear hc
      go_wp2
      go_roundw
      case rel => exact ⟨e + 1, bg, E, by omega, by omega, by omega, by go_num, rfl, hnn, hown, hb, hh⟩
      case measure => exact zq191
    . have hend : e = s.size \/ ∃ h : e < s.size, s[e].toNat = 10 := by
       by_cases h : e < s.size
       . exact .inr ⟨h, Classical.byContradiction fun hc => hmid ⟨h, hc⟩⟩
       . exact .inl (by omega)
      clear hmid
      obtain ⟨g, cap, rfl, hg0, hg1, hln⟩ := lns_own hown.out hnn
      obtain ⟨X, hX⟩ := zn1 (s.extract bg e)
      have hsl : ∀ w, (Instr.slice 9 (.string s) (some (.int .i64 (bg : Int))) (some (.int .i64 (e : Int))) none).run prog w = .ok (.string X) w := by
       intro w; rw [hX]; exact slice_mid s bg e hbe hle w
      have hXl : X.data.toList = (s.data.toList.take e).drop bg := by rw [hX]; exact ext_list s bg e
      have hXs : X.size <= 4096 := by
       have : X.size = X.data.toList.length := by rw [Array.length_toList]; rfl
       rw [this, hXl, List.length_drop, List.length_take, Array.length_toList]
       have : s.data.size = s.size := rfl
       omega
      obtain ⟨K, hK⟩ := zn1 (Byt.tok X.size X.data.toList)
      have htk := a_tokens2 X (by omega)
      have hKl := (tok_len X.size X.data.toList).1
      have hKs := (tok_len X.size X.data.toList).2
      have hXz : X.data.toList.length = X.size := by rw [Array.length_toList]; rfl
      rw [hXz, <- hK] at hKl hKs
      rw [<- hK] at htk
      obtain ⟨Z, hZ⟩ := zn1 (Byt.readLn K E)
      rw [from_end s e bg E X hXl hend Z (by rw [hZ, hK])] at hh
      have HTK := hide1 htk
      have HZ := hide1 hZ
      have HLN := hide1 hln
      have hKs' : Hid (Short K) := hide1 (fun t ht => by have := hKs t ht; omega)
      have hcond : Hid (e = s.size \/ ∃ h : e < s.size, s[e].toNat = 10) := hend
      clear htk hZ hln hX hXl hXz hKs hK hend
      obtain ⟨er, l⟩ := Z
      go_upto_region 6 with fail
      go_cut [27] from 18 to 27 (fun q wx => q = .bool false /\ wx = wr)
      case first =>
       by_cases hlt : e < s.size
       . have hc : s[e].toNat = 10 := by
          rcases hcond.out with h | ⟨h, hc⟩
          . omega
          . exact hc
         have hc' : ((s[e].toNat : Int) != 10) = false := by simp; omega
         clear hc
         exact zq362
       . have hlt' : decide ((e : Int) < (s.size : Int)) = false := by simp; omega
         exact zq362
      case rest =>
       obtain ⟨rfl, rfl⟩ := hcut
       clear hcond
       go_wp2_with fail
       refine (HTK.out _).mono ?_
       rintro e1 w1 ⟨tb, tcap, rfl, htc, htb, hst, hb1⟩
       have hrl := a_readLine tb 0 tcap K (by omega) htc (some ⟨g, 0, none⟩) cap E (by omega) w1 hst htb hKs' (hide1 (HLN.out.below hb1 (fun a h => by simp only [Option.some.injEq] at h; rw [<- h]; exact hg1))) (hide1 (fun a h => by simp only [Option.some.injEq] at h; rw [<- h]; exact Nat.lt_of_lt_of_le hg1 hb1.size))
       rw [<- HZ.out] at hrl
       have HRL := hide1 hrl
       have HB1 := hide1 (hb.out.trans (hb1.mono hb.out.size))
       have HO1 := hide1 (own_more hown.out hb1)
       clear hrl HTK HLN hst hsl
       go_wp2_with fail
       refine HRL.out.mono ?_
       rintro e1 w2 ⟨rfl, hb2⟩
       have HB2 := hide1 (HB1.out.trans (hb2.mono HB1.out.size))
       have HO2 := hide1 (own_more HO1.out hb2)
       have hsz2 := HB2.out.size
       clear HRL HB1 HO1 hb1 hb2 hb hown
       obtain ⟨nm, i, tg⟩ := l
       simp only [lnV, lnA]
       obtain ⟨NM, hNM⟩ := zn1 (⟨nm.toArray⟩ : ByteArray)
       obtain ⟨TG, hTG⟩ := zn1 (⟨tg.toArray⟩ : ByteArray)
       rw [<- hNM, <- hTG]
       have HNT := hide1 (And.intro hNM hTG)
       clear hNM hTG
       by_cases her : er = 0
       . have her' : (er != 0) = false := by simp [her]
         have hgo : Hid (R = Byt.from s (e + 1) (e + 1) (E ++ [(⟨nm, i, tg⟩ : Ln)])) := by
          show R = _
          rw [hh.out, if_pos her]
         clear hh her HZ
         have hrow : ∀ j, (Value.slice (some ⟨g, 0, none⟩) E.length cap).ownBlock = some j -> w.heap.size <= j := fun j hj => by
          simp only [Value.ownBlock, Option.some.injEq] at hj
          omega
         have HROW := hide1 hrow
         clear hrow
         go_wp2_with (at_builtin; refine wpList_append_own _ rfl (.tmp 45) (.tmp 47) 140 rfl w.heap.size 165 i0 (lnA ⟨#[]⟩ ins0 ⟨#[]⟩) 8 80 Tryz.underlying140 hi hz0 hz1 hz2 rfl (by decide) _ _ _ rfl ((HO2.out.alloc _).alloc _) ⟨_, 0, none⟩ 1 1 [.string NM, .int .i64 i.op, .int .i64 i.rd, .int .i64 i.rs1, .int .i64 i.rs2, .int .i64 i.im, .int .i64 i.ln, .string TG] rfl rfl ?c1 ?c2 ?c3 ?c4 ?c5 ?_)
         case c1 =>
          intro j u hj
          match j, hj with
          | 0, hj => simp at hj; subst hj; simp [Addr.add]
          | 1, hj => simp at hj; subst hj; simp [Addr.add]
          | 2, hj => simp at hj; subst hj; simp [Addr.add]
          | 3, hj => simp at hj; subst hj; simp [Addr.add]
          | 4, hj => simp at hj; subst hj; simp [Addr.add]
          | 5, hj => simp at hj; subst hj; simp [Addr.add]
          | 6, hj => simp at hj; subst hj; simp [Addr.add]
          | 7, hj => simp at hj; subst hj; simp [Addr.add]
          | j + 8, hj => simp at hj
         case c2 => intro u hu; simp at hu; rcases hu with rfl | rfl | rfl | rfl | rfl | rfl | rfl | rfl <;> rfl
         case c3 => unfold maxLen; omega
         case c4 => omega
         case c5 => simp; omega
         intro v' w3 hown' hgrow hnil
         have hnn' : v' ≠ .slice none 0 0 := fun h => hnil h
         have hrow2 := hide1 (((HB2.out.alloc (by omega) _).alloc (by simp; omega) _).grown hgrow (by simp; omega) HROW.out)
         clear hnil hgrow HO2 HB2
         obtain ⟨h1, h2⟩ := HNT.out
         have hown2 : Hid (w3.ownsRow w.heap.size 165 8 v' (E ++ [(⟨nm, i, tg⟩ : Ln)]).length (lnR (E ++ [(⟨nm, i, tg⟩ : Ln)]))) := by
          show w3.ownsRow w.heap.size 165 8 v' (E ++ [(⟨nm, i, tg⟩ : Ln)]).length (lnR (E ++ [(⟨nm, i, tg⟩ : Ln)]))
          rw [lnR_app, List.length_append]
          rw [h1, h2] at hown'
          exact hown'
         clear hown' h1 h2 HNT
         go_wp2
         go_roundw
         case rel =>
          first
           | exact ⟨e + 1, e + 1, E ++ [(⟨nm, i, tg⟩ : Ln)], by omega, by omega, by simp; omega, by go_num, by go_num, hnn', hown2, hrow2, hgo⟩
           | ((repeat apply Exists.intro); exact ⟨⟨e + 1, e + 1, E ++ [(⟨nm, i, tg⟩ : Ln)], by omega, by omega, by simp; omega, by go_num, by go_num, hnn', hown2, hrow2, hgo⟩, rfl⟩)
         case measure => exact zq191
       . have her' : (er != 0) = true := by simp [her]
         have hgo : Hid (R = ([], er, E.length + 1)) := by
          show R = _
          rw [hh.out, if_neg her]
         have hne := hide1 her
         clear hh her HZ
         go_wp2
         go_ret3
         exact ⟨⟨_, by rw [hgo.out]; rfl, fun h => absurd (by rw [hgo.out] at h; exact h) hne.out⟩, HB2.out.alloc (by omega) _⟩
  . have hT : Hid (R = (E, 0, 0)) := by
     show R = _
     rw [hh.out]; unfold Byt.from; rw [if_neg hle]
    obtain ⟨g, cap, rfl, hg0, hg1, hln⟩ := lns_own hown.out hnn
    have HLN := hide1 hln
    have hle' : decide ((e : Int) <= (s.size : Int)) = false := by simp; omega
    clear hh hln
    go_wp2
    go_ret3
    exact ⟨⟨_, by rw [hT.out]; rfl, fun _ => ⟨some ⟨g, 0, none⟩, cap, by rw [hT.out]; rfl, by rw [hT.out]; show E.length <= 5000; omega, fun a h => by simp only [Option.some.injEq] at h; rw [<- h]; exact hg1, by rw [hT.out]; exact HLN.out⟩⟩, hb.out⟩
theorem rowCount_ok (n : Int) : (rowCount n).toNat <= 70 /\ ((rowCount n).toNat : Int) = rowCount n := by
 unfold rowCount
 cases (n == 4) <;> cases (n == 2) <;> decide
theorem i_Encode (i : Ins) (w : World) :
 CB 87 #[insV i] (.tuple #[.int .i64 (encodeD i).1, .int .i64 (encodeD i).2]) w := by
 refine (i_Encode' i (rowCount i.ln).toNat (rowCount_ok _).1 (rowCount_ok _).2 w).mono ?_
 rintro e w' ⟨⟨st, hst, rfl⟩, hb⟩
 refine ⟨?_, hb⟩
 unfold encodeD
 rw [<- hst.out]
 cases st <;> rfl
theorem a_wordOf (i : Ins) (w : World) :
 CB 155 #[insV i] (.tuple #[.int .i64 (Byt.wordD i).1, .int .i64 (Byt.wordD i).2]) w := by
 unfold Byt.wordD insV
 by_cases h0 : i.ln = 0
 . rw [if_pos h0]
   have h0' : (i.ln == 0) = true := by simp [h0]
   go_enter func155, ntmps155
   go_wp2
   exact zq363
 rw [if_neg h0]
 have h0' : (i.ln == 0) = false := by simp [h0]
 by_cases h1 : i.op = 71
 . rw [if_pos h1]
   have h1' : (i.op == 71) = true := by simp [h1]
   unfold Byt.dataD
   have hd := fun w => a_dataOf i.im (-2147483648) 4294967295 w
   obtain ⟨V, hV⟩ := zn1 (if i.im < -2147483648 \/ 4294967295 < i.im then (0, 7) else (i.im, (0 : Int)))
   rw [<- hV]
   have e1 : (if i.im < -2147483648 \/ 4294967295 < i.im then 0 else i.im) = V.1 := by rw [hV]; split <;> rfl
   have e2 : (if i.im < -2147483648 \/ 4294967295 < i.im then (7 : Int) else 0) = V.2 := by rw [hV]; split <;> rfl
   rw [e1, e2] at hd
   have HD := hide1 hd
   clear hd hV e1 e2 h0 h1
   exact zq364
 rw [if_neg h1]
 have h1' : (i.op == 71) = false := by simp [h1]
 by_cases h2 : i.op = 72
 . rw [if_pos h2]
   have h2' : (i.op == 72) = true := by simp [h2]
   unfold Byt.dataD
   have hd := fun w => a_dataOf i.im (-32768) 65535 w
   obtain ⟨V, hV⟩ := zn1 (if i.im < -32768 \/ 65535 < i.im then (0, 7) else (i.im, (0 : Int)))
   rw [<- hV]
   have e1 : (if i.im < -32768 \/ 65535 < i.im then 0 else i.im) = V.1 := by rw [hV]; split <;> rfl
   have e2 : (if i.im < -32768 \/ 65535 < i.im then (7 : Int) else 0) = V.2 := by rw [hV]; split <;> rfl
   rw [e1, e2] at hd
   have HD := hide1 hd
   clear hd hV e1 e2 h0 h1 h2
   exact zq364
 rw [if_neg h2]
 have h2' : (i.op == 72) = false := by simp [h2]
 have he := i_Encode i
 unfold insV at he
 obtain ⟨V, hV⟩ := zn1 (encodeD i)
 rw [<- hV] at he |-
 have HE := hide1 he
 clear he hV h0 h1 h2
 by_cases hv : V.2 = 0
 . rw [if_pos hv]
   have hv' : (V.2 != 0) = false := by simp [hv]
   exact zq365
 . rw [if_neg hv]
   have hv' : (V.2 != 0) = true := by simp [hv]
   exact zq365
theorem leL_length (v : Int) : ∀ n, (leL v n).length = n
 | 0 => rfl
 | n + 1 => by simp [leL, leL_length v n]
theorem lay_step {L : List Ln} {k : Nat} {m : List UInt8} (h : k < L.length) : Byt.lay L (L.drop k) k m =
 if L[k].tg ≠ [] /\ Byt.findN L L[k].tg = L.length then ([], 8, k + 1) else
 if (Byt.wordD (Byt.aimed L L[k] m.length)).2 = 0 then Byt.lay L (L.drop (k + 1)) (k + 1) (m ++ Byt.leB (Byt.wordD (Byt.aimed L L[k] m.length)).1 L[k].i.ln.toNat) else ([], (Byt.wordD (Byt.aimed L L[k] m.length)).2, k + 1) := by
 rw [List.drop_eq_getElem_cons h]; rfl
theorem lay_no {L : List Ln} {k : Nat} {m : List UInt8} (h : k < L.length) (h1 : L[k].tg ≠ []) (h2 : Byt.findN L L[k].tg = L.length) : Byt.lay L (L.drop k) k m = ([], 8, k + 1) := by
 rw [lay_step h, if_pos ⟨h1, h2⟩]
theorem lay_yes {L : List Ln} {k : Nat} {m : List UInt8} (h : k < L.length) (h1 : ¬ (L[k].tg ≠ [] /\ Byt.findN L L[k].tg = L.length)) (i : Ins) (hi : Byt.aimed L L[k] m.length = i) : Byt.lay L (L.drop k) k m = if (Byt.wordD i).2 = 0 then Byt.lay L (L.drop (k + 1)) (k + 1) (m ++ Byt.leB (Byt.wordD i).1 L[k].i.ln.toNat) else ([], (Byt.wordD i).2, k + 1) := by
 rw [lay_step h, if_neg h1, hi]
theorem strNums_size (l : List Int) : (strOfNums l).size = l.length := by
 unfold strOfNums; simp [ByteArray.size]
theorem app_list (X B : ByteArray) : (X ++ B).data.toList = X.data.toList ++ B.data.toList := by
 rw [ByteArray.data_append, Array.toList_append]
theorem place_bd : ∀ (L : List Ln) (n : Nat), Tidy L -> 0 <= Byt.place L n /\ Byt.place L n <= 4 * L.length
 | [], n, _ => by cases n <;> simp [Byt.place]
 | l :: L, 0, _ => by simp [Byt.place]; omega
 | l :: L, n + 1, h => by
  have ih := place_bd L n (fun x hx => h x (List.mem_cons_of_mem _ hx))
  have := h l (by simp)
  simp only [Byt.place, List.length_cons]; omega
theorem a_layLines (p : Option Addr) (cap : Nat) (L : List Ln) (hL : L.length <= 5000) (hd : Hid (Tidy L)) (w : World) (hw : Hid (LnsAt w p L)) (hp : Hid (∀ a, p = some a -> a.block < w.heap.size)) :
 CB 115 #[.slice p L.length cap] (.tuple #[Byt.strV (Byt.lay L L 0 []).1, .int .i64 (Byt.lay L L 0 []).2.1, .int .i64 (Byt.lay L L 0 []).2.2]) w := by
 obtain ⟨R, hR⟩ := zn1 (Byt.lay L L 0 [])
 rw [<- hR]
 have HR : Hid (R = Byt.lay L (L.drop 0) 0 (⟨#[]⟩ : ByteArray).data.toList) := hR
 clear hR
 go_enter func115, ntmps115
 go_wp2
 go_loopw [5, 6] (fun v k6 wr => ∃ (k : Nat) (X : ByteArray), k <= L.length /\ X.size <= 4 * k /\ v = .string X /\ k6 = .int .i64 k /\ Hid (Below w.heap.size w wr) /\ Hid (R = Byt.lay L (L.drop k) k X.data.toList)) (fun _ k6 _ => L.length - (intOf k6).toNat)
 case atStart => exact ⟨0, ⟨#[]⟩, by omega, by decide, rfl, rfl, hide1 (Below.refl _ _), HR⟩
 case round =>
  obtain ⟨k, X, hk, hXs, rfl, rfl, hb, hh⟩ := hrel
  clear HR
  by_cases hlt : k < L.length
  . have hln := hide1 (hw.out.below hb.out hp.out)
    rcases hln.out with h0 | ⟨b, rfl, hcx⟩
    . exact zq354
    have hcx := hcx k hlt
    have hbl : b < wr.heap.size := Nat.lt_of_lt_of_le (hp.out _ rfl) hb.out.size
    have hz := hd.out L[k] (List.getElem_mem hlt)
    obtain ⟨z, hz', hz4⟩ : ∃ z : Nat, L[k].i.ln = z /\ z <= 4 := ⟨L[k].i.ln.toNat, by omega, by omega⟩
    obtain ⟨l, hl⟩ := zn1 (L[k])
    rw [<- hl] at hcx hz'
    have HL := hide1 hl
    clear hz hl
    obtain ⟨nm, i, tg⟩ := l
    have c0 := hcx.c0
    have c1 := hcx.c1
    have c2 := hcx.c2
    have c3 := hcx.c3
    have c4 := hcx.c4
    have c5 := hcx.c5
    have c6 := hcx.c6
    have c7 := hcx.c7
    simp only at c0 c1 c2 c3 c4 c5 c6 c7 hz'
    rw [hz'] at c6
    have HZ := hide1 hz'
    obtain ⟨NM, hNM⟩ := zn1 (⟨nm.toArray⟩ : ByteArray)
    obtain ⟨TG, hTG⟩ := zn1 (⟨tg.toArray⟩ : ByteArray)
    rw [<- hNM] at c0
    rw [<- hTG] at c7
    have hTl : TG.data.toList = tg := by rw [hTG]
    have q0 : (TG.toList == []) = decide (TG.data.toList = []) := eq_lit TG []
    rw [hTl] at q0
    have HTG := hide1 hTl
    clear hNM hTG hTl hz' hcx
    by_cases htg : tg = []
    . rw [decide_eq_true htg] at q0
      have hstep : Hid (R = if (Byt.wordD i).2 = 0 then Byt.lay L (L.drop (k + 1)) (k + 1) (X.data.toList ++ Byt.leB (Byt.wordD i).1 i.ln.toNat) else ([], (Byt.wordD i).2, k + 1)) := by
       show R = _
       rw [hh.out, lay_yes hlt (by rw [<- HL.out]; exact fun h => h.1 htg) i (by unfold Byt.aimed; rw [<- HL.out, if_pos htg]), <- HL.out]
      clear hh htg
      obtain ⟨V, hV⟩ := zn1 (Byt.wordD ⟨i.op, i.rd, i.rs1, i.rs2, i.im, z⟩)
      have hgo : Hid (R = if V.2 = 0 then Byt.lay L (L.drop (k + 1)) (k + 1) (X.data.toList ++ Byt.leB V.1 z) else ([], V.2, k + 1)) := by
       show R = _
       have h := hstep.out
       have hI : i = ⟨i.op, i.rd, i.rs1, i.rs2, i.im, z⟩ := by rw [<- HZ.out]
       rw [hI, <- hV] at h
       first | exact h | (rw [HZ.out] at h; exact h)
      have hnb := Bx.new wr NM ⟨i.op, i.rd, i.rs1, i.rs2, i.im, z⟩ TG
      have hww : Below w.heap.size w (wr.alloc (lnC NM ⟨i.op, i.rd, i.rs1, i.rs2, i.im, z⟩ TG)) := hb.out.alloc hb.out.size _
      have hwo := a_wordOf ⟨i.op, i.rd, i.rs1, i.rs2, i.im, z⟩ (wr.alloc (lnC NM ⟨i.op, i.rd, i.rs1, i.rs2, i.im, z⟩ TG))
      rw [<- hV] at hwo
      have HWO := hide1 (hwo.mono fun e w1 h => (⟨h.1, hide1 (hww.trans (h.2.mono hww.size)), (hnb.more h.2 hnb.lt).c6⟩ : _ /\ Hid (Below w.heap.size w w1) /\ w1.cell? ⟨wr.heap.size, 6, none⟩ = some (.int .i64 z)))
      unfold insV lnC at HWO
      clear hwo hww hnb hV hstep
      go_wp2_with fail
      exact zq366
    . rw [decide_eq_false htg] at q0
      have hww : Below w.heap.size w (wr.alloc (lnC NM ⟨i.op, i.rd, i.rs1, i.rs2, i.im, z⟩ TG)) := hb.out.alloc hb.out.size _
      have hfn := a_findName (some ⟨b, 0, none⟩) cap L hL TG _ (hide1 (hw.out.below hww hp.out))
      have hpl := fun n hn => a_placeOf (some ⟨b, 0, none⟩) cap L hL hd n hn _ (hide1 (hw.out.below hww hp.out))
      rw [HTG.out] at hfn
      obtain ⟨F, hF⟩ := zn1 (Byt.findN L tg)
      have hFl : F <= L.length := by rw [hF]; exact Byt.findN_le L tg
      rw [<- hF] at hfn
      have HF := hide1 hF
      have HFN := hide1 hfn
      have hpl' := hpl F (by omega)
      have hPb := place_bd L F hd.out
      obtain ⟨P, hP⟩ := zn1 (Byt.place L F)
      rw [<- hP] at hpl' hPb
      have HP := hide1 hP
      have HPL := hide1 hpl'
      unfold lnC at HFN HPL
      clear hfn hpl hpl' hww hF hP
      by_cases hfe : F = L.length
      . have hno : Hid (R = ([], 8, k + 1)) := by
         show R = _
         rw [hh.out]
         exact lay_no hlt (by rw [<- HL.out]; exact htg) (by rw [<- HL.out]; show Byt.findN L tg = L.length; rw [<- HF.out]; exact hfe)
        have e1 : ((F : Int) == (L.length : Int)) = true := by simp; omega
        have e2 : (F == L.length) = true := by simp; omega
        clear hh htg hfe
        go_wp2_with (go_at_call 153; refine HFN.out.mono ?_; rintro e w1 ⟨rfl, rfl⟩)
        go_ret3
        exact ⟨by rw [hno.out]; rfl, hb.out.alloc hb.out.size _⟩
      . have hstep : Hid (R = if (Byt.wordD ⟨i.op, i.rd, i.rs1, i.rs2, P - X.size, i.ln⟩).2 = 0 then Byt.lay L (L.drop (k + 1)) (k + 1) (X.data.toList ++ Byt.leB (Byt.wordD ⟨i.op, i.rd, i.rs1, i.rs2, P - X.size, i.ln⟩).1 i.ln.toNat) else ([], (Byt.wordD ⟨i.op, i.rd, i.rs1, i.rs2, P - X.size, i.ln⟩).2, k + 1)) := by
         show R = _
         rw [hh.out, lay_yes hlt (by rw [<- HL.out]; intro h; exact hfe (by rw [HF.out]; exact h.2)) ⟨i.op, i.rd, i.rs1, i.rs2, P - X.size, i.ln⟩ (by
          unfold Byt.aimed
          rw [<- HL.out, if_neg htg]
          show ({ i with im := Byt.place L (Byt.findN L tg) - _ } : Ins) = _
          rw [<- HF.out, <- HP.out, Array.length_toList]; rfl), <- HL.out]
        have e1 : ((F : Int) == (L.length : Int)) = false := by simp; omega
        have e2 : (F == L.length) = false := by simp; omega
        clear hh htg hfe
        obtain ⟨V, hV⟩ := zn1 (Byt.wordD ⟨i.op, i.rd, i.rs1, i.rs2, P - X.size, z⟩)
        have hgo : Hid (R = if V.2 = 0 then Byt.lay L (L.drop (k + 1)) (k + 1) (X.data.toList ++ Byt.leB V.1 z) else ([], V.2, k + 1)) := by
         show R = _
         have h := hstep.out
         have hI : (⟨i.op, i.rd, i.rs1, i.rs2, P - X.size, i.ln⟩ : Ins) = ⟨i.op, i.rd, i.rs1, i.rs2, P - X.size, z⟩ := by rw [<- HZ.out]
         rw [hI, <- hV] at h
         first | exact h | (rw [HZ.out] at h; exact h)
        have hnb := Bx.new wr NM ⟨i.op, i.rd, i.rs1, i.rs2, P - X.size, z⟩ TG
        have hww : Below w.heap.size w (wr.alloc (lnC NM ⟨i.op, i.rd, i.rs1, i.rs2, P - X.size, z⟩ TG)) := hb.out.alloc hb.out.size _
        have hwo := a_wordOf ⟨i.op, i.rd, i.rs1, i.rs2, P - X.size, z⟩ (wr.alloc (lnC NM ⟨i.op, i.rd, i.rs1, i.rs2, P - X.size, z⟩ TG))
        rw [<- hV] at hwo
        have HWO := hide1 (hwo.mono fun e w1 h => (⟨h.1, hide1 (hww.trans (h.2.mono hww.size)), (hnb.more h.2 hnb.lt).c6⟩ : _ /\ Hid (Below w.heap.size w w1) /\ w1.cell? ⟨wr.heap.size, 6, none⟩ = some (.int .i64 z)))
        unfold insV lnC at HWO
        clear hwo hww hnb hV hstep
        go_upto_region 7 with fail
        go_wp2_with (first | (go_at_call 153; refine HFN.out.mono ?_; rintro e w1 ⟨rfl, rfl⟩) | (go_at_call 154; refine HPL.out.mono ?_; rintro e w1 ⟨rfl, rfl⟩) | (go_at_call 155; fail))
        exact zq366
  . have hT : Hid (R = (X.data.toList, 0, 0)) := by
     show R = _
     rw [hh.out, List.drop_eq_nil_of_le (by omega)]; rfl
    have hlt' : decide ((k : Int) < (L.length : Int)) = false := by simp; omega
    clear hh
    go_wp2
    go_ret3
    exact ⟨by rw [hT.out]; unfold Byt.strV; simp only [mk_list]; rfl, hb.out⟩
theorem opd_ln {i j : Ins} {g h : List UInt8} {c : Nat} {T : List (List UInt8)} (e : Byt.opdP i g c T = some (j, h)) : j.ln = i.ln /\ j.op = i.op := by
 unfold Byt.opdP at e
 split at e
 . cases hr : Byt.opdR i c (T[0]?.getD []) with
   | none => rw [hr] at e; simp at e
   | some x =>
    rw [hr] at e
    simp only [Option.map_some, Option.some.injEq, Prod.mk.injEq] at e
    rw [<- e.1]
    unfold Byt.opdR at hr
    split at hr
    . simp at hr
    . simp only [Option.some.injEq] at hr
      rw [<- hr]
      split
      . exact ⟨rfl, rfl⟩
      . split <;> exact ⟨rfl, rfl⟩
 . split at e
   . cases hr : Byt.opdM i (T[0]?.getD []) (T[1]?.getD []) (T[2]?.getD []) (T[3]?.getD []) with
     | none => rw [hr] at e; simp at e
     | some x =>
      rw [hr] at e
      simp only [Option.map_some, Option.some.injEq, Prod.mk.injEq] at e
      rw [<- e.1]
      unfold Byt.opdM at hr
      split at hr
      . split at hr
        . simp at hr
        . simp only [Option.some.injEq] at hr
          rw [<- hr]; exact ⟨rfl, rfl⟩
      . simp at hr
   . split at e
     . simp only [Option.some.injEq, Prod.mk.injEq] at e
       rw [<- e.1]; exact ⟨rfl, rfl⟩
     . cases hr : Byt.opdN i c (T[0]?.getD []) with
       | none => rw [hr] at e; simp at e
       | some x =>
        rw [hr] at e
        simp only [Option.map_some, Option.some.injEq, Prod.mk.injEq] at e
        rw [<- e.1]
        unfold Byt.opdN at hr
        split at hr
        . simp only [Option.some.injEq] at hr
          rw [<- hr]
          split <;> exact ⟨rfl, rfl⟩
        . simp at hr
theorem ops_ln : ∀ (cs : List Nat) (m : Bool) (i : Ins) (g : List UInt8) (T : List (List UInt8)) (j : Ins) (h : List UInt8), Byt.opsP cs m i g T = some (j, h) -> j.ln = i.ln /\ j.op = i.op
 | [], m, i, g, T, j, h, e => by
  simp only [Byt.opsP] at e
  split at e
  . simp only [Option.some.injEq, Prod.mk.injEq] at e; rw [<- e.1]; exact ⟨rfl, rfl⟩
  . simp at e
 | c :: cs, m, i, g, T, j, h, e => by
  simp only [Byt.opsP] at e
  split at e
  . simp at e
  . split at e
    . simp at e
    . next x y he =>
      have h1 := opd_ln he
      have h2 := ops_ln cs true x y _ j h e
      exact ⟨h2.1.trans h1.1, h2.2.trans h1.2⟩
theorem wrdFrom_sz (t : List UInt8) : ∀ f op, (Byt.wrdFrom t f op).2 = 0 \/ (Byt.wrdFrom t f op).2 = 2 \/ (Byt.wrdFrom t f op).2 = 4
 | 0, op => .inl rfl
 | f + 1, op => by
  have ih := wrdFrom_sz t f (op + 1)
  unfold Byt.wrdFrom
  split
  . right; right; rfl
  . split
    . right; left; rfl
    . exact ih
theorem wrd_sz (t : List UInt8) : (Byt.wrd t).2 = 0 \/ (Byt.wrd t).2 = 2 \/ (Byt.wrd t).2 = 4 := by
 unfold Byt.wrd
 split
 . right; right; rfl
 . split
   . right; left; rfl
   . exact wrdFrom_sz t 70 1
theorem readR_tidy (nm : List UInt8) (T : List (List UInt8)) : (Byt.readR nm T).2.i.ln = 0 \/ (Byt.readR nm T).2.i.ln = 2 \/ (Byt.readR nm T).2.i.ln = 4 := by
 cases T with
 | nil => left; rfl
 | cons t LT =>
  by_cases hz : (Byt.wrd t).2 = 0
  . rw [readR_no nm t LT hz]; left; rfl
  . cases ho : Byt.opsP (Byt.shp (Byt.wrd t).1) false ⟨(Byt.wrd t).1, 0, 0, 0, 0, (Byt.wrd t).2⟩ [] LT with
    | none => rw [readR_bad nm t LT hz ho]; left; rfl
    | some r =>
     obtain ⟨i, g⟩ := r
     rw [readR_yes nm t LT hz ho]
     have h1 := (ops_ln _ _ _ _ _ _ _ ho).1
     have h2 := wrd_sz t
     simp only at h1 |-
     omega
theorem readLn_tidy (T : List (List UInt8)) (E : List Ln) : (Byt.readLn T E).2.i.ln = 0 \/ (Byt.readLn T E).2.i.ln = 2 \/ (Byt.readLn T E).2.i.ln = 4 := by
 unfold Byt.readLn
 split
 . split
   . split
     . left; rfl
     . exact readR_tidy _ _
   . left; rfl
 . exact readR_tidy _ _
theorem readAll_tidy : ∀ (ts : List (List UInt8)) (E : List Ln), Tidy E -> Tidy (Byt.readAll E ts).1
 | [], E, h => h
 | t :: ts, E, h => by
  simp only [Byt.readAll]
  split
  . refine readAll_tidy ts _ (fun l hl => ?_)
    rcases List.mem_append.1 hl with hl | hl
    . exact h l hl
    . rw [List.mem_singleton] at hl; rw [hl]; exact readLn_tidy _ _
  . intro l hl; simp at hl
theorem a_Assemble (s : ByteArray) (w : World) :
 CB 67 #[.string s] (.tuple #[Byt.strV (Byt.asmD s.data.toList).1, .int .i64 (Byt.asmD s.data.toList).2.1, .int .i64 (Byt.asmD s.data.toList).2.2]) w := by
 obtain ⟨R, hR⟩ := zn1 (Byt.asmD s.data.toList)
 rw [<- hR]
 unfold Byt.asmD at hR
 rw [show s.data.toList.length = s.size by rw [Array.length_toList]; rfl] at hR
 by_cases h1 : 4096 < s.size
 . rw [if_pos h1] at hR
   have h1' : decide (4096 < (s.size : Int)) = true := by simp; omega
   have HR := hide1 hR
   clear hR
   go_enter func67, ntmps67
   go_wp2
   go_ret3
   exact ⟨by rw [HR.out]; rfl, Below.refl _ _⟩
 rw [if_neg h1] at hR
 have h1' : decide (4096 < (s.size : Int)) = false := by simp; omega
 have hcl := a_countLines s (by omega) w
 obtain ⟨C, hC⟩ := zn1 (1 + Byt.nls s.data.toList)
 rw [<- hC] at hcl hR
 have HCL := hide1 hcl
 clear hcl hC
 by_cases h2 : 256 < C
 . rw [if_pos h2] at hR
   have h2' : decide (256 < (C : Int)) = true := by simp; omega
   have HR := hide1 hR
   clear hR
   go_enter func67, ntmps67
   go_wp2_with (go_at_call 113; refine HCL.out.mono ?_; rintro e w1 ⟨rfl, rfl⟩)
   go_ret3
   exact ⟨by rw [HR.out]; rfl, Below.refl _ _⟩
 rw [if_neg h2] at hR
 have h2' : decide (256 < (C : Int)) = false := by simp; omega
 have hrl := a_readLines s (by omega) w
 have htd := readAll_tidy (Byt.segs [] s.data.toList) [] (fun l hl => by simp at hl)
 obtain ⟨Q, hQ⟩ := zn1 (Byt.readAll [] (Byt.segs [] s.data.toList))
 rw [<- hQ] at hrl hR htd
 have HRL := hide1 hrl
 have HTD := hide1 htd
 clear hrl hQ htd
 obtain ⟨L, er, bad⟩ := Q
 by_cases h3 : er = 0
 . have h3' : (er != 0) = false := by simp [h3]
   have HR : Hid (R = Byt.lay L L 0 []) := by
    show R = _
    rw [hR]; simp only; rw [if_pos h3]
   have H3 := hide1 h3
   clear hR
   go_enter func67, ntmps67
   go_wp2_with fail
   refine HCL.out.mono ?_
   rintro e w1 ⟨rfl, rfl⟩
   go_wp2_with fail
   refine HRL.out.mono ?_
   rintro e w1 ⟨⟨v, rfl, hv⟩, hb⟩
   obtain ⟨p, cap, rfl, hL, hp, hln⟩ := hv H3.out
   have hlay := a_layLines p cap L hL (hide1 HTD.out) w1 (hide1 hln) (hide1 hp)
   rw [<- HR.out] at hlay
   have HLAY := hide1 hlay
   obtain ⟨X, hX⟩ := zn1 (Byt.strV R.1)
   rw [<- hX] at HLAY
   have HX := hide1 hX
   clear hlay hv hX
   go_wp2_with fail
   refine HLAY.out.mono ?_
   rintro e w2 ⟨rfl, hb2⟩
   go_wp2
   go_ret3
   exact ⟨by rw [<- HX.out]; rfl, hb.trans (hb2.mono hb.size)⟩
 . have h3' : (er != 0) = true := by simp [h3]
   have HR : Hid (R = ([], er, bad)) := by
    show R = _
    rw [hR]; simp only; rw [if_neg h3]
   clear hR
   go_enter func67, ntmps67
   go_wp2_with fail
   refine HCL.out.mono ?_
   rintro e w1 ⟨rfl, rfl⟩
   go_wp2_with fail
   refine HRL.out.mono ?_
   rintro e w1 ⟨⟨v, rfl, hv⟩, hb⟩
   clear hv
   go_wp2
   go_ret3
   exact ⟨by rw [HR.out]; rfl, hb⟩
section
attribute [local go_sem ↓] Go.wp_at_zero Go.wp_at_succ
theorem a_Asm' (s : ByteArray) (w : World) : Calls prog 67 #[.string s] w fun e w' => (∃ (X : ByteArray) (er n : Int), e = .returned (.tuple #[.string X, .int .i64 er, .int .i64 n])) /\ Kept [] w w' :=
 (a_Assemble s w).mono (fun e w' h => ⟨⟨_, _, _, h.1⟩, Below.kept h.2 []⟩)
theorem u_Le4' (v : Int) (w : World) : Calls prog 89 #[.int .i64 v, .int .i64 4] w fun e w' => (∃ B : ByteArray, B.size = 4 /\ e = .returned (.string B)) /\ Kept [] w w' :=
 (v_Le4 v w).mono (fun e w' h => ⟨⟨_, leA_size v 4, h.1⟩, Below.kept h.2 []⟩)
def MadeR (w0 w' : World) (z : Nat) (e : Ending) : Prop := (e = .returned (.pointer none) \/ ∃ mb rb, w0.heap.size <= mb /\ w0.heap.size <= rb /\ e = .returned (.pointer (some ⟨mb, 0, none⟩)) /\ Mz w' mb rb z) /\ Kept [] w0 w'
theorem kept_new {w0 w w' : World} {mb rb : Nat} (h0 : Kept [] w0 w) (hk : Kept [mb, rb] w w') (h1 : w0.heap.size <= mb) (h2 : w0.heap.size <= rb) : Kept [] w0 w' :=
 ⟨hk.os.trans h0.os, hk.tape.trans h0.tape, hk.output.trans h0.output, Nat.le_trans h0.size hk.size, fun k q _ => (hk.block k (Nat.lt_of_lt_of_le q h0.size) (by simp; omega)).trans (h0.block k q (by simp))⟩
set_option maxRecDepth 100000 in
theorem k_built (s : ByteArray) (a b : Int) (w : World) : Calls prog 90 #[.string s, .int .i64 a, .int .i64 b] w fun e w' => MadeR w w' 4096 e := by
 have N := hide1 (m_New 4096 (by decide) w)
 go_enter func90, ntmps90
 go_wp2_with fail
 refine N.out.mono ?_
 rintro o w1 ⟨rfl, hm1, hk1⟩
 have M1 := hide1 hm1
 have K1 := hide1 hk1
 clear N hm1 hk1
 go_wp2_with fail
 refine (a_Asm' s _).mono ?_
 rintro o w2 ⟨⟨X, er, n, rfl⟩, hk2⟩
 have M2 := hide1 (M1.out.kept hk2)
 have K2 := hide1 (K1.out.trans hk2)
 clear hk2 M1 K1
 by_cases her : er = 0
 . have q : (er != 0) = false := by simp [her]
   have q' : (er == 0) = true := by simp [her]
   clear her
   have L1 := hide1 (m_Load _ _ _ 0 X w2 M2.out)
   go_wp2_with fail
   refine L1.out.mono ?_
   rintro o w3 ⟨⟨e, rfl⟩, hm3, hk3⟩
   have M3 := hide1 hm3
   have K3 := hide1 (kept_new K2.out hk3 (by omega) (by omega))
   clear L1 hm3 hk3 M2 K2
   go_wp2_with fail
   refine (u_Le4' a _).mono ?_
   rintro o w4 ⟨⟨A, hA, rfl⟩, hk4⟩
   have M4 := hide1 (M3.out.kept hk4)
   have K4 := hide1 (K3.out.trans hk4)
   clear hk4 M3 K3
   go_wp2_with fail
   refine (u_Le4' b _).mono ?_
   rintro o w5 ⟨⟨B, hB, rfl⟩, hk5⟩
   have M5 := hide1 (M4.out.kept hk5)
   have K5 := hide1 (K4.out.trans hk5)
   obtain ⟨c, hcg, hcz, hc⟩ := add_in A B (by omega)
   clear hk5 M4 K4 hA hB hcg hcz
   have L2 := hide1 (m_Load _ _ _ 1024 c w5 M5.out)
   go_wp2_with fail
   refine L2.out.mono ?_
   rintro o w6 ⟨⟨e, rfl⟩, hm6, hk6⟩
   have M6 := hide1 hm6
   have K6 := hide1 (kept_new K5.out hk6 (by omega) (by omega))
   clear L2 hm6 hk6 M5 K5
   go_wp2_with fail
   go_ret
   exact ⟨.inr ⟨_, _, by omega, by omega, rfl, M6.out⟩, K6.out⟩
 . exact zq367
structure LOp where
 k : Int
 a : Int
 b : Int
 c : Int
 s : ByteArray
def LOp.v (x : LOp) : Value := .agg #[.int .i64 x.k, .int .i64 x.a, .int .i64 x.b, .int .i64 x.c, .string x.s]
def LOp.o (x : LOp) : Obj := .cells #[.int .i64 x.k, .int .i64 x.a, .int .i64 x.b, .int .i64 x.c, .string x.s] 56
structure LOk (x : LOp) : Prop where
 a0 : -9223372036854775808 <= x.a
 a1 : x.a <= 9223372036854775807
 b0 : -9223372036854775808 <= x.b
 b1 : x.b <= 9223372036854775807
 c0 : -9223372036854775808 <= x.c
 c1 : x.c <= 9223372036854775807
 s1 : x.s.size <= 1125899906842624
def MPost (w : World) (mb rb z : Nat) (o : Ending) (w' : World) : Prop := BoolR o /\ Mz w' mb rb z /\ Kept [mb, rb] w w'
theorem kept_of {F : List Nat} {w w' : World} (h : Kept [] w w') : Kept F w w' := h.mono (by simp)
theorem kept_out {w0 w w' : World} {mb rb nb qb : Nat} (h0 : Kept [mb, rb] w0 w) (hk : Kept [nb, qb] w w') (h1 : w0.heap.size <= nb) (h2 : w0.heap.size <= qb) : Kept [mb, rb] w0 w' :=
 ⟨hk.os.trans h0.os, hk.tape.trans h0.tape, hk.output.trans h0.output, Nat.le_trans h0.size hk.size, fun k q hn => (hk.block k (Nat.lt_of_lt_of_le q h0.size) (by simp; omega)).trans (h0.block k q hn)⟩
set_option maxRecDepth 100000 in
theorem k_twin (mb rb z : Nat) (n : Int) (w : World) (hw : Hid (Mz w mb rb z)) : Calls prog 31 #[.pointer (some ⟨mb, 0, none⟩), .int .i64 n] w fun o w' => MPost w mb rb z o w' := by
 have l0 := hw.out.m.lt
 have C := hide1 (m_Copy mb rb z w hw.out)
 go_enter func31, ntmps31
 go_wp2_with fail
 refine C.out.mono ?_
 rintro o w1 ⟨rfl, hy1, hk1⟩
 have Y1 := hide1 hy1
 have M1 := hide1 (hw.out.kept hk1)
 have K1 := hide1 hk1
 have s1 := hk1.size
 clear C hy1 hk1
 go_wp2_with fail
 refine (m_Flush w.heap.size w1).mono ?_
 rintro o w1' ⟨rfl, rfl⟩
 go_wp2_with fail
 refine (m_Run mb rb z n w1' M1.out).mono ?_
 rintro o w2 ⟨⟨v, er, q0, q1, rfl⟩, hm, hk⟩
 have M2 := hide1 hm
 have Y2 := hide1 (Y1.out.more hk (by simp; omega) (by simp; omega))
 have K2 := hide1 ((kept_of K1.out).trans hk)
 clear hm hk M1 Y1 K1 q0 q1
 go_wp2_with fail
 refine (m_Run w.heap.size (w.heap.size + 1) z n w2 Y2.out).mono ?_
 rintro o w3 ⟨⟨v2, er2, q0, q1, rfl⟩, hm, hk⟩
 have Y3 := hide1 hm
 have M3 := hide1 (M2.out.more hk (by simp; omega) (by simp; omega))
 have K3 := hide1 (kept_out K2.out hk (by omega) (by omega))
 clear hm hk M2 Y2 K2 q0 q1
 go_wp2_with fail
 refine (m_Show mb rb w3 M3.out.m).mono ?_
 rintro o w4 ⟨⟨s, z0, z1, rfl⟩, hk⟩
 have M4 := hide1 (M3.out.kept hk)
 have Y4 := hide1 (Y3.out.kept hk)
 have K4 := hide1 (K3.out.trans (kept_of hk))
 clear hk M3 Y3 K3 z0 z1
 go_wp2_with fail
 refine (m_Show w.heap.size (w.heap.size + 1) w4 Y4.out.m).mono ?_
 rintro o w5 ⟨⟨t, z0, z1, rfl⟩, hk⟩
 have M5 := hide1 (M4.out.kept hk)
 have Y5 := hide1 (Y4.out.kept hk)
 have K5 := hide1 (K4.out.trans (kept_of hk))
 clear hk M4 Y4 K4 z0 z1
 go_wp2_with fail
 refine (k_ram mb rb z w5 M5).mono ?_
 rintro o w6 ⟨⟨r, zr, rfl⟩, rfl⟩
 clear zr
 go_wp2_with fail
 refine (k_ram w.heap.size (w.heap.size + 1) z w6 Y5).mono ?_
 rintro o w7 ⟨⟨r2, zr, rfl⟩, rfl⟩
 exact zq368
set_option maxRecDepth 100000 in
theorem k_reset (mb rb z : Nat) (w : World) (hw : Hid (Mz w mb rb z)) : Calls prog 71 #[.pointer (some ⟨mb, 0, none⟩)] w fun o w' => MPost w mb rb z o w' := by
 have l0 := hw.out.m.lt
 have hz := hw.out.le
 go_enter func71, ntmps71
 go_wp2_with fail
 refine (k_ram mb rb z w hw).mono ?_
 rintro o w1 ⟨⟨r, zr, rfl⟩, rfl⟩
 clear zr
 go_wp2_with fail
 refine (m_Size mb rb z w1 hw.out).mono ?_
 rintro o w1 ⟨rfl, rfl⟩
 go_wp2_with fail
 refine (m_Reset mb rb z w1 hw.out).mono ?_
 rintro o w2 ⟨rfl, hm, hk⟩
 have M2 := hide1 hm
 have K2 := hide1 hk
 have s2 := hk.size
 clear hm hk
 go_wp2_with fail
 refine (m_New z hz w2).mono ?_
 rintro o w3 ⟨rfl, hy, hk⟩
 have Y3 := hide1 hy
 have M3 := hide1 (M2.out.kept hk)
 have K3 := hide1 (K2.out.trans (kept_of hk))
 clear hy hk M2 K2
 go_wp2_with fail
 refine (m_Show mb rb w3 M3.out.m).mono ?_
 rintro o w4 ⟨⟨s, z0, z1, rfl⟩, hk⟩
 have M4 := hide1 (M3.out.kept hk)
 have Y4 := hide1 (Y3.out.kept hk)
 have K4 := hide1 (K3.out.trans (kept_of hk))
 clear hk M3 Y3 K3 z0 z1
 go_wp2_with fail
 refine (m_Show _ _ w4 Y4.out.m).mono ?_
 rintro o w5 ⟨⟨t, z0, z1, rfl⟩, hk⟩
 have M5 := hide1 (M4.out.kept hk)
 have K5 := hide1 (K4.out.trans (kept_of hk))
 clear hk M4 Y4 K4 z0 z1
 go_wp2_with fail
 refine (k_ram mb rb z w5 M5).mono ?_
 rintro o w6 ⟨⟨r2, zr, rfl⟩, rfl⟩
 exact zq368
theorem box_not {w : World} {mb rb z : Nat} (h : Mz w mb rb z) : ¬ w.heap.size ∈ [mb, rb] := by have := h.m.lt; simp; omega
set_option maxRecDepth 100000 in
theorem k_plain2 (mb rb z : Nat) (a b c : Int) (s : ByteArray) (w : World) (hw : Hid (Mz w mb rb z)) : Calls prog 33 #[.pointer (some ⟨mb, 0, none⟩), .agg #[.int .i64 2, .int .i64 a, .int .i64 b, .int .i64 c, .string s]] w fun o w' => MPost w mb rb z o w' := by
 have k0 : Kept [] w (w.alloc (.cells #[.int .i64 2, .int .i64 a, .int .i64 b, .int .i64 c, .string s] 36)) := zq136
 have hn := box_not hw.out
 have M0 := hide1 (hw.out.kept k0)
 have K0 : Hid (Kept [mb, rb] w (w.alloc (.cells #[.int .i64 2, .int .i64 a, .int .i64 b, .int .i64 c, .string s] 36))) := zq138
 have ob0 := BoxF.new w [.int .i64 2, .int .i64 a, .int .i64 b, .int .i64 c, .string s] 36
 clear k0 hw
 go_enter func33, ntmps33
 go_wp2_with fail
 refine (m_Load mb rb z b s _ M0.out).mono ?_
 exact zq369
set_option maxRecDepth 100000 in
theorem k_plain4 (mb rb z : Nat) (a b c : Int) (s : ByteArray) (w : World) (hw : Hid (Mz w mb rb z)) : Calls prog 33 #[.pointer (some ⟨mb, 0, none⟩), .agg #[.int .i64 4, .int .i64 a, .int .i64 b, .int .i64 c, .string s]] w fun o w' => MPost w mb rb z o w' := by
 have k0 : Kept [] w (w.alloc (.cells #[.int .i64 4, .int .i64 a, .int .i64 b, .int .i64 c, .string s] 36)) := zq136
 have hn := box_not hw.out
 have M0 := hide1 (hw.out.kept k0)
 have K0 : Hid (Kept [mb, rb] w (w.alloc (.cells #[.int .i64 4, .int .i64 a, .int .i64 b, .int .i64 c, .string s] 36))) := zq138
 have ob0 := BoxF.new w [.int .i64 4, .int .i64 a, .int .i64 b, .int .i64 c, .string s] 36
 clear k0 hw
 go_enter func33, ntmps33
 go_wp2_with fail
 refine (m_Run mb rb z b _ M0.out).mono ?_
 rintro o w1 ⟨⟨v, er, q0, q1, rfl⟩, hm, hk⟩
 exact zq370
set_option maxRecDepth 100000 in
theorem k_plain5 (mb rb z : Nat) (a b c : Int) (s : ByteArray) (w : World) (hw : Hid (Mz w mb rb z)) : Calls prog 33 #[.pointer (some ⟨mb, 0, none⟩), .agg #[.int .i64 5, .int .i64 a, .int .i64 b, .int .i64 c, .string s]] w fun o w' => MPost w mb rb z o w' := by
 have k0 : Kept [] w (w.alloc (.cells #[.int .i64 5, .int .i64 a, .int .i64 b, .int .i64 c, .string s] 36)) := zq136
 have hn := box_not hw.out
 have M0 := hide1 (hw.out.kept k0)
 have K0 : Hid (Kept [mb, rb] w (w.alloc (.cells #[.int .i64 5, .int .i64 a, .int .i64 b, .int .i64 c, .string s] 36))) := zq138
 have ob0 := BoxF.new w [.int .i64 5, .int .i64 a, .int .i64 b, .int .i64 c, .string s] 36
 clear k0 hw
 go_enter func33, ntmps33
 go_wp2_with fail
 refine (m_Tick mb rb z b _ M0.out).mono ?_
 exact zq369
set_option maxRecDepth 100000 in
theorem k_plain6 (mb rb z : Nat) (a b c : Int) (s : ByteArray) (w : World) (hw : Hid (Mz w mb rb z)) : Calls prog 33 #[.pointer (some ⟨mb, 0, none⟩), .agg #[.int .i64 6, .int .i64 a, .int .i64 b, .int .i64 c, .string s]] w fun o w' => MPost w mb rb z o w' := by
 have k0 : Kept [] w (w.alloc (.cells #[.int .i64 6, .int .i64 a, .int .i64 b, .int .i64 c, .string s] 36)) := zq136
 have hn := box_not hw.out
 have M0 := hide1 (hw.out.kept k0)
 have K0 : Hid (Kept [mb, rb] w (w.alloc (.cells #[.int .i64 6, .int .i64 a, .int .i64 b, .int .i64 c, .string s] 36))) := zq138
 have ob0 := BoxF.new w [.int .i64 6, .int .i64 a, .int .i64 b, .int .i64 c, .string s] 36
 clear k0 hw
 go_enter func33, ntmps33
 go_wp2_with fail
 refine (m_Feed mb rb z s _ M0.out).mono ?_
 rintro o w1 ⟨⟨v, er, q0, q1, q2, rfl⟩, hm, hk⟩
 have M1 := hide1 hm
 have K1 := hide1 (K0.out.trans hk)
 have ob1 := ob0.more hk hn
 have o4 := ob1.cell 4 _ rfl
 exact zq371
set_option maxRecDepth 100000 in
theorem k_plain8 (mb rb z : Nat) (a b c : Int) (s : ByteArray) (w : World) (hw : Hid (Mz w mb rb z)) : Calls prog 33 #[.pointer (some ⟨mb, 0, none⟩), .agg #[.int .i64 8, .int .i64 a, .int .i64 b, .int .i64 c, .string s]] w fun o w' => MPost w mb rb z o w' := by
 have k0 : Kept [] w (w.alloc (.cells #[.int .i64 8, .int .i64 a, .int .i64 b, .int .i64 c, .string s] 36)) := zq136
 have hn := box_not hw.out
 have M0 := hide1 (hw.out.kept k0)
 have K0 : Hid (Kept [mb, rb] w (w.alloc (.cells #[.int .i64 8, .int .i64 a, .int .i64 b, .int .i64 c, .string s] 36))) := zq138
 have ob0 := BoxF.new w [.int .i64 8, .int .i64 a, .int .i64 b, .int .i64 c, .string s] 36
 clear k0 hw
 go_enter func33, ntmps33
 go_wp2_with fail
 refine (k_reset mb rb z _ M0).mono ?_
 rintro o w1 ⟨⟨r, rfl⟩, hm, hk⟩
 exact zq370
set_option maxRecDepth 100000 in
theorem k_plain7 (mb rb z : Nat) (a b c : Int) (s : ByteArray) (w : World) (hw : Hid (Mz w mb rb z)) : Calls prog 33 #[.pointer (some ⟨mb, 0, none⟩), .agg #[.int .i64 7, .int .i64 a, .int .i64 b, .int .i64 c, .string s]] w fun o w' => MPost w mb rb z o w' := by
 have k0 : Kept [] w (w.alloc (.cells #[.int .i64 7, .int .i64 a, .int .i64 b, .int .i64 c, .string s] 36)) := zq136
 have hn := box_not hw.out
 have M0 := hide1 (hw.out.kept k0)
 have K0 : Hid (Kept [mb, rb] w (w.alloc (.cells #[.int .i64 7, .int .i64 a, .int .i64 b, .int .i64 c, .string s] 36))) := zq138
 have ob0 := BoxF.new w [.int .i64 7, .int .i64 a, .int .i64 b, .int .i64 c, .string s] 36
 clear k0 hw
 go_enter func33, ntmps33
 go_wp2_with fail
 refine (m_Drain mb rb z _ M0.out).mono ?_
 rintro o w1 ⟨⟨t, z0, rfl⟩, hm, hk⟩
 have M1 := hide1 hm
 have K1 := hide1 (K0.out.trans hk)
 clear hm hk M0 K0 z0
 go_wp2_with fail
 refine (m_Drain mb rb z _ M1.out).mono ?_
 rintro o w2 ⟨⟨t2, z0, rfl⟩, hm, hk⟩
 have M2 := hide1 hm
 have K2 := hide1 (K1.out.trans hk)
 clear hm hk M1 K1 z0
 exact zq372
set_option maxRecDepth 100000 in
theorem k_plain10 (mb rb z : Nat) (a b c : Int) (s : ByteArray) (w : World) (hw : Hid (Mz w mb rb z)) : Calls prog 33 #[.pointer (some ⟨mb, 0, none⟩), .agg #[.int .i64 10, .int .i64 a, .int .i64 b, .int .i64 c, .string s]] w fun o w' => MPost w mb rb z o w' := by
 have k0 : Kept [] w (w.alloc (.cells #[.int .i64 10, .int .i64 a, .int .i64 b, .int .i64 c, .string s] 36)) := zq136
 have hn := box_not hw.out
 have M0 := hide1 (hw.out.kept k0)
 have K0 : Hid (Kept [mb, rb] w (w.alloc (.cells #[.int .i64 10, .int .i64 a, .int .i64 b, .int .i64 c, .string s] 36))) := zq138
 have ob0 := BoxF.new w [.int .i64 10, .int .i64 a, .int .i64 b, .int .i64 c, .string s] 36
 clear k0 hw
 go_enter func33, ntmps33
 go_wp2_with fail
 refine (m_Show mb rb _ M0.out.m).mono ?_
 rintro o w1 ⟨⟨t, z0, z1, rfl⟩, hk⟩
 have M1 := hide1 (M0.out.kept hk)
 have K1 := hide1 (K0.out.trans (kept_of hk))
 clear hk M0 K0 z0 z1
 go_wp2_with fail
 refine (m_Flush mb w1).mono ?_
 rintro o w1' ⟨rfl, rfl⟩
 go_wp2_with fail
 refine (m_Show mb rb _ M1.out.m).mono ?_
 rintro o w2 ⟨⟨t2, z0, z1, rfl⟩, hk⟩
 have M2 := hide1 (M1.out.kept hk)
 have K2 := hide1 (K1.out.trans (kept_of hk))
 clear hk M1 K1 z0 z1
 exact zq372
set_option maxRecDepth 100000 in
theorem k_plain22 (mb rb z : Nat) (a b c : Int) (s : ByteArray) (w : World) (hw : Hid (Mz w mb rb z)) : Calls prog 33 #[.pointer (some ⟨mb, 0, none⟩), .agg #[.int .i64 22, .int .i64 a, .int .i64 b, .int .i64 c, .string s]] w fun o w' => MPost w mb rb z o w' := by
 have k0 : Kept [] w (w.alloc (.cells #[.int .i64 22, .int .i64 a, .int .i64 b, .int .i64 c, .string s] 36)) := zq136
 have hn := box_not hw.out
 have M0 := hide1 (hw.out.kept k0)
 have K0 : Hid (Kept [mb, rb] w (w.alloc (.cells #[.int .i64 22, .int .i64 a, .int .i64 b, .int .i64 c, .string s] 36))) := zq138
 have ob0 := BoxF.new w [.int .i64 22, .int .i64 a, .int .i64 b, .int .i64 c, .string s] 36
 clear k0 hw
 go_enter func33, ntmps33
 go_wp2_with fail
 refine (a_Asm' s _).mono ?_
 rintro o w1 ⟨⟨X, er, n, rfl⟩, hk⟩
 have M1 := hide1 (M0.out.kept hk)
 have K1 := hide1 (K0.out.trans (kept_of hk))
 have ob1 := ob0.kept hk
 have o2 := ob1.cell 2 _ rfl
 clear hk M0 K0
 by_cases her : er = 0
 . have q : (er == 0) = true := by simp [her]
   clear her
   go_wp2_with fail
   refine (m_Load mb rb z b X _ M1.out).mono ?_
   rintro o w2 ⟨⟨e, rfl⟩, hm, hk⟩
   have M2 := hide1 hm
   have K2 := hide1 (K1.out.trans hk)
   clear hm hk M1 K1
   exact zq372
 . have q : (er == 0) = false := by simp [her]
   clear her
   exact zq373
set_option maxRecDepth 100000 in
theorem k_plainN (mb rb z : Nat) (k a b c : Int) (s : ByteArray) (hk : ¬ (k = 2 \/ (4 <= k /\ k <= 8) \/ k = 10 \/ k = 22)) (w : World) (hw : Hid (Mz w mb rb z)) : Calls prog 33 #[.pointer (some ⟨mb, 0, none⟩), .agg #[.int .i64 k, .int .i64 a, .int .i64 b, .int .i64 c, .string s]] w fun o w' => MPost w mb rb z o w' := by
 have k0 : Kept [] w (w.alloc (.cells #[.int .i64 k, .int .i64 a, .int .i64 b, .int .i64 c, .string s] 36)) := zq136
 have M0 := hide1 (hw.out.kept k0)
 have K0 : Hid (Kept [mb, rb] w (w.alloc (.cells #[.int .i64 k, .int .i64 a, .int .i64 b, .int .i64 c, .string s] 36))) := zq138
 have q2 : (k == 2) = false := by simp; omega
 have q4 : (k == 4) = false := by simp; omega
 have q5 : (k == 5) = false := by simp; omega
 have q6 : (k == 6) = false := by simp; omega
 have q7 : (k == 7) = false := by simp; omega
 have q8 : (k == 8) = false := by simp; omega
 have q10 : (k == 10) = false := by simp; omega
 have q22 : (k == 22) = false := by simp; omega
 clear k0 hw hk
 go_enter func33, ntmps33
 go_wp2_with fail
 go_ret
 exact ⟨⟨_, rfl⟩, M0.out, K0.out⟩
theorem k_plain (mb rb z : Nat) (k a b c : Int) (s : ByteArray) (w : World) (hw : Hid (Mz w mb rb z)) : Calls prog 33 #[.pointer (some ⟨mb, 0, none⟩), .agg #[.int .i64 k, .int .i64 a, .int .i64 b, .int .i64 c, .string s]] w fun o w' => MPost w mb rb z o w' := by
 by_cases h : k = 2 \/ (4 <= k /\ k <= 8) \/ k = 10 \/ k = 22
 . have : k = 2 \/ k = 4 \/ k = 5 \/ k = 6 \/ k = 7 \/ k = 8 \/ k = 10 \/ k = 22 := by omega
   rcases this with rfl | rfl | rfl | rfl | rfl | rfl | rfl | rfl
   . exact k_plain2 mb rb z a b c s w hw
   . exact k_plain4 mb rb z a b c s w hw
   . exact k_plain5 mb rb z a b c s w hw
   . exact k_plain6 mb rb z a b c s w hw
   . exact k_plain7 mb rb z a b c s w hw
   . exact k_plain8 mb rb z a b c s w hw
   . exact k_plain10 mb rb z a b c s w hw
   . exact k_plain22 mb rb z a b c s w hw
 . exact k_plainN mb rb z k a b c s h w hw
def TPost (w : World) (mb rb z : Nat) (o : Ending) (w' : World) : Prop := o = .returned (.bool true) /\ Mz w' mb rb z /\ Kept [mb, rb] w w'
def ptrs (U : List Nat) : List Value := U.map fun b => .pointer (some ⟨b, 0, none⟩)
theorem own_kept {F : List Nat} {w w' : World} {B e size n : Nat} {v : Value} {xs : List Value} (h : w.ownsRow B e size v n xs) (hk : Kept F w w') (hn : ∀ k, v.ownBlock = some k -> k ∉ F) : w'.ownsRow B e size v n xs := by
 refine ⟨h.1, ?_⟩
 rcases h.2 with h' | ⟨g, cap, cur, hv, hB, hg, h1, h2, h3, h4⟩
 . exact .inl h'
 . exact .inr ⟨g, cap, cur, hv, hB, by rw [hk.block g (Array.getElem?_eq_some_iff.1 hg).1 (hn g (by rw [hv]; rfl))]; exact hg, h1, h2, h3, h4⟩
theorem grown_kept {w w' : World} {r : Option Nat} (h : w.grownBy w' r) : Kept r.toList w w' := ⟨h.os, h.tape, h.output, h.size, fun k hk hn => h.block k hk (fun e => hn (by rw [<- e]; simp))⟩
theorem own_new {v v' : Value} {g n c H : Nat} (hv : v' = .slice (some ⟨g, 0, none⟩) n c) (hat : v.ownBlock = some g \/ g = H) (k : Nat) (hk : v'.ownBlock = some k) : v.ownBlock = some k \/ k = H := by
 rw [hv] at hk
 simp only [Value.ownBlock, Option.some.injEq] at hk
 rw [<- hk]; exact hat
structure Kp1 where
 mb : Nat
 rb : Nat
 z : Nat
structure Kw (w : World) (wb : Nat) (P : List Kp1) (u : Value) : Prop where
 c0 : w.cell? ⟨wb, 0, none⟩ = some u
 fro : ∀ o, w.frozen? ⟨wb, o, none⟩ = false
 lt : wb < w.heap.size
 ox : w.ownsRow (wb + 1) 39 1 u P.length (ptrs (P.map Kp1.mb))
 pr : ∀ a (h : a < P.length), Mz w P[a].mb P[a].rb P[a].z
 ge : ∀ a (h : a < P.length), wb < P[a].mb /\ wb < P[a].rb
 su : ∀ a (h : a < P.length), u.ownBlock ≠ some P[a].mb /\ u.ownBlock ≠ some P[a].rb
 dj : ∀ a b (ha : a < P.length) (hb : b < P.length), a ≠ b -> P[a].mb ≠ P[b].mb /\ P[a].mb ≠ P[b].rb /\ P[a].rb ≠ P[b].mb /\ P[a].rb ≠ P[b].rb
theorem Kw.keep {w w' : World} {wb : Nat} {P : List Kp1} {u : Value} (h : Kw w wb P u) (hk : Kept [] w w') : Kw w' wb P u :=
 ⟨(hk.cell (p := ⟨wb, 0, none⟩) h.lt (by simp)).trans h.c0, fun o => (hk.frozen (p := ⟨wb, o, none⟩) h.lt (by simp)).trans (h.fro o), Nat.lt_of_lt_of_le h.lt hk.size, own_kept h.ox hk (by simp), fun a ha => (h.pr a ha).kept hk, h.ge, h.su, h.dj⟩
theorem Kw.act {w w' : World} {wb : Nat} {P : List Kp1} {u : Value} (h : Kw w wb P u) (j : Nat) (hj : j < P.length) (hm : Mz w' P[j].mb P[j].rb P[j].z) (hk : Kept [P[j].mb, P[j].rb] w w') : Kw w' wb P u := by
 have g := h.ge j hj
 have n0 : wb ∉ [P[j].mb, P[j].rb] := by simp; omega
 have nu : ∀ k, u.ownBlock = some k -> k ∉ [P[j].mb, P[j].rb] := fun k hk q => by
  simp at q
  rcases q with e | e
  . exact (h.su j hj).1 (by rw [hk, e])
  . exact (h.su j hj).2 (by rw [hk, e])
 refine ⟨(hk.cell (p := ⟨wb, 0, none⟩) h.lt n0).trans h.c0, fun o => (hk.frozen (p := ⟨wb, o, none⟩) h.lt n0).trans (h.fro o), Nat.lt_of_lt_of_le h.lt hk.size, own_kept h.ox hk nu, fun a ha => ?_, h.ge, h.su, h.dj⟩
 by_cases e : a = j
 . subst e; exact hm
 . have d := h.dj a j ha hj e
   exact (h.pr a ha).more hk (by simp; exact ⟨d.1, d.2.1⟩) (by simp; exact ⟨d.2.2.1, d.2.2.2⟩)
theorem Kw.push {w w' : World} {wb : Nat} {P : List Kp1} {u : Value} (h : Kw w wb P u) (p : Kp1) (hp : Mz w p.mb p.rb p.z) (N : Nat) (hN : N <= p.mb /\ N <= p.rb) (h0 : wb < N) (hu : ∀ k, u.ownBlock = some k -> k < N) (hP : ∀ a (h : a < P.length), P[a].mb < N /\ P[a].rb < N) (g cap : Nat) (hg : w.grownBy w' u.ownBlock) (ho : w'.ownsRow (wb + 1) 39 1 (.slice (some ⟨g, 0, none⟩) (P.length + 1) cap) (P.length + 1) (ptrs (P.map Kp1.mb) ++ [.pointer (some ⟨p.mb, 0, none⟩)])) (hat : u.ownBlock = some g \/ g = w.heap.size) :
 Kw (w'.setCell ⟨wb, 0, none⟩ (.slice (some ⟨g, 0, none⟩) (P.length + 1) cap)) wb (P ++ [p]) (.slice (some ⟨g, 0, none⟩) (P.length + 1) cap) := by
 have hk := grown_kept hg
 have n0 : wb ∉ u.ownBlock.toList := fun q => by have := (h.ox.lt wb (by simpa using q)).1; omega
 have hs := hk.size
 have hl := h.lt
 have ks : Kept [wb] w' (w'.setCell ⟨wb, 0, none⟩ (.slice (some ⟨g, 0, none⟩) (P.length + 1) cap)) := (Kept.refl _ _).setCell (.inl (by simp)) _
 have hg1 : wb + 1 <= g := (ho.lt g rfl).1
 have lp := hp.m.lt
 have on := fun k (hk : (Value.slice (some ⟨g, 0, none⟩) (P.length + 1) cap).ownBlock = some k) => own_new (v := u) rfl hat k hk
 have mz : ∀ mb rb z, Mz w mb rb z -> (wb < mb /\ wb < rb) -> (u.ownBlock ≠ some mb /\ u.ownBlock ≠ some rb) -> Mz (w'.setCell ⟨wb, 0, none⟩ (.slice (some ⟨g, 0, none⟩) (P.length + 1) cap)) mb rb z := fun mb rb z hm h1 h2 =>
  (hm.more hk (fun q => h2.1 (by simpa using q)) (fun q => h2.2 (by simpa using q))).more ks (by simp; omega) (by simp; omega)
 have pu : u.ownBlock ≠ some p.mb /\ u.ownBlock ≠ some p.rb := ⟨fun e => by have := hu _ e; omega, fun e => by have := hu _ e; omega⟩
 refine ⟨World.cell?_setCell_same _ _ _ ((hk.cell (p := ⟨wb, 0, none⟩) hl n0).trans h.c0), fun o => by rw [World.frozen?_setCell]; exact (hk.frozen (p := ⟨wb, o, none⟩) hl n0).trans (h.fro o), Nat.lt_of_lt_of_le (Nat.lt_of_lt_of_le hl hs) ks.size, ?_, ?_, ?_, ?_, ?_⟩
 . have := own_kept ho ks (fun k hk q => by simp only [Value.ownBlock, Option.some.injEq] at hk; simp at q; omega)
   simpa [ptrs] using this
 . intro a ha
   rw [List.getElem_append]
   split
   . next q => exact mz _ _ _ (h.pr a q) (h.ge a q) (h.su a q)
   . simp only [List.getElem_singleton]; exact mz _ _ _ hp ⟨by omega, by omega⟩ pu
 . intro a ha
   rw [List.getElem_append]
   split
   . next q => exact h.ge a q
   . simp only [List.getElem_singleton]; omega
 . intro a ha
   rw [List.getElem_append]
   split
   . next q =>
     have l := (h.pr a q).m.lt
     have s := h.su a q
     exact ⟨fun e => by rcases on _ e with r | r; exact s.1 r; omega, fun e => by rcases on _ e with r | r; exact s.2 r; omega⟩
   . simp only [List.getElem_singleton]
     exact ⟨fun e => by rcases on _ e with r | r; exact pu.1 r; omega, fun e => by rcases on _ e with r | r; exact pu.2 r; omega⟩
 . intro a b ha hb hab
   rw [List.getElem_append, List.getElem_append]
   split
   . next q =>
     split
     . next q2 => exact h.dj a b q q2 hab
     . simp only [List.getElem_singleton]
       have := hP a q
       omega
   . next q =>
     split
     . next q2 =>
       simp only [List.getElem_singleton]
       have := hP b q2
       omega
     . next q2 => simp at ha hb; omega
theorem kept_below {F : List Nat} {w w' : World} {wb : Nat} (h : Kept F w w') (hF : ∀ k ∈ F, wb <= k) (hl : wb <= w.heap.size) : Below wb w w' :=
 ⟨h.os, h.tape, h.output, h.size, fun k hk => h.block k (by omega) (fun q => by have := hF k q; omega)⟩
theorem info_xm : (prog.info? 39).map (fun i => (i.zero, i.size, i.bytes)) = some (some (.pointer none), 1, 8) := by kernel_rfl
def KwH (w : World) (wb n : Nat) : Prop := ∃ P u, Kw w wb P u /\ P.length <= n
theorem KwH.keep {w w' : World} {wb n : Nat} (h : KwH w wb n) (hk : Kept [] w w') : KwH w' wb n := by
 obtain ⟨P, u, a, b⟩ := h; exact ⟨P, u, a.keep hk, b⟩
theorem KwH.mono {w : World} {wb n m : Nat} (h : KwH w wb n) (hn : n <= m) : KwH w wb m := by
 obtain ⟨P, u, a, b⟩ := h; exact ⟨P, u, a, by omega⟩
theorem KwH.lt {w : World} {wb n : Nat} (h : KwH w wb n) : wb < w.heap.size := by
 obtain ⟨P, u, a, b⟩ := h; exact a.lt
theorem app_k {w : World} {wb : Nat} {P : List Kp1} {u : Value} (h : Kw w wb P u) (p : Kp1) (hp : Mz w p.mb p.rb p.z) (N : Nat) (hN : N <= p.mb /\ N <= p.rb) (h0 : wb < N) (hu : ∀ k, u.ownBlock = some k -> k < N) (hP : ∀ a (h : a < P.length), P[a].mb < N /\ P[a].rb < N) (ty : Nat) (hU : P.length <= 1073741824) : ∃ g cap w', (Builtin.append_ #[30, 30] ty #[u, .slice (some ⟨w.heap.size, 0, none⟩) 1 1]).run prog (w.alloc (.cells #[.pointer (some ⟨p.mb, 0, none⟩)] 39)) = .ok (.slice (some ⟨g, 0, none⟩) (P.length + 1) cap) w' /\ Kw (w'.setCell ⟨wb, 0, none⟩ (.slice (some ⟨g, 0, none⟩) (P.length + 1) cap)) wb (P ++ [p]) (.slice (some ⟨g, 0, none⟩) (P.length + 1) cap) /\ w'.cell? ⟨wb, 0, none⟩ = some u /\ (∀ o, w'.frozen? ⟨wb, o, none⟩ = false) /\ wb < w'.heap.size /\ Kept (wb :: u.ownBlock.toList) w w' := by
 obtain ⟨i0, hi, hz0, hz1, hz2⟩ := info_parts info_xm
 have k0 : Kept [] w (w.alloc (.cells #[.pointer (some ⟨p.mb, 0, none⟩)] 39)) := zq136
 have ha := h.keep k0
 have hl := h.lt
 obtain ⟨g, cap, w', hr, ho, hg, hat, hlt⟩ := run_append_lies (P := prog) (w.alloc (.cells #[.pointer (some ⟨p.mb, 0, none⟩)] 39)) 30 ty (wb + 1) 39 i0 (.pointer none) 1 8 Tryz.underlying30 hi hz0 hz1 hz2 rfl (by decide) u P.length (ptrs (P.map Kp1.mb)) ha.ox ⟨w.heap.size, 0, none⟩ 1 1 [.pointer (some ⟨p.mb, 0, none⟩)] rfl (by
  intro j x hj
  match j, hj with
  | 0, hj => simp at hj; subst hj; simp [Addr.add]
  | j + 1, hj => simp at hj) (by intro x hx; simp at hx; subst hx; rfl) (by decide) zq489 (by omega) (by simp; omega) _ rfl
 have hk := grown_kept hg
 have n0 : wb ∉ u.ownBlock.toList := fun q => by have := (ha.ox.lt wb (by simpa using q)).1; omega
 refine ⟨g, cap, w', hr, ha.push p (hp.kept k0) N hN h0 hu hP g cap hg ho hat, (hk.cell (p := ⟨wb, 0, none⟩) ha.lt n0).trans ha.c0, fun o => (hk.frozen (p := ⟨wb, o, none⟩) ha.lt n0).trans (ha.fro o), Nat.lt_of_lt_of_le ha.lt hk.size, ?_⟩
 exact (k0.mono (by simp)).trans (hk.mono (fun k q => by simp at q |-; exact .inr q))
theorem wpList_appk {ops : Array Oper} {rest : List Oper} {o : Oper} {a : Act} {Q : Exit -> Act -> World -> Prop} (hgd : o.guard = none) (s x : Operand) (ho : o.op = .call { callee := .builtin .append, args := #[s, x], argTypes := #[30, 30] })
 {w : World} {wb : Nat} {P : List Kp1} {u : Value} (h : Kw w wb P u) (p : Kp1) (hp : Mz w p.mb p.rb p.z) (N : Nat) (hN : N <= p.mb /\ N <= p.rb) (h0 : wb < N) (hu : ∀ k, u.ownBlock = some k -> k < N) (hP : ∀ a (h : a < P.length), P[a].mb < N /\ P[a].rb < N) (hU : P.length <= 1073741824) (hs : a.eval s = u) (hx : a.eval x = .slice (some ⟨w.heap.size, 0, none⟩) 1 1)
 (hK : ∀ g cap w', Kw (w'.setCell ⟨wb, 0, none⟩ (.slice (some ⟨g, 0, none⟩) (P.length + 1) cap)) wb (P ++ [p]) (.slice (some ⟨g, 0, none⟩) (P.length + 1) cap) -> w'.cell? ⟨wb, 0, none⟩ = some u -> (∀ o, w'.frozen? ⟨wb, o, none⟩ = false) -> wb < w'.heap.size -> Kept (wb :: u.ownBlock.toList) w w' -> wpList prog ops Q rest (a.put o.dst (.slice (some ⟨g, 0, none⟩) (P.length + 1) cap)) w') :
 wpList prog ops Q (o :: rest) a (w.alloc (.cells #[.pointer (some ⟨p.mb, 0, none⟩)] 39)) := by
 refine wpList_plain hgd fun K hK' => ?_
 obtain ⟨g, cap, w', hr, h1, h2, h3, h4, h5⟩ := app_k h p hp N hN h0 hu hP o.type hU
 unfold Oper.wp execOp
 simp only [ho, resolve, invoke, builtin, Sem.run_bind, Sem.run_pure, Result.andThen_ok, List.map_toArray, List.map_cons, List.map_nil, hs, hx, hr]
 exact hK' _ _ (hK g cap w' h1 h2 h3 h4 h5)
set_option maxRecDepth 100000 in
theorem k_join (wb : Nat) (P : List Kp1) (u : Value) (p : Kp1) (N : Nat) (hN : N <= p.mb /\ N <= p.rb) (h0 : wb < N) (hu : ∀ k, u.ownBlock = some k -> k < N) (hP : ∀ a (h : a < P.length), P[a].mb < N /\ P[a].rb < N) (hU : P.length <= 1073741824) (w : World) (hw : Hid (Kw w wb P u)) (hp : Hid (Mz w p.mb p.rb p.z)) :
 Calls prog 26 #[.pointer (some ⟨wb, 0, none⟩), .pointer (some ⟨p.mb, 0, none⟩)] w fun e w' => e = .returned (.tuple #[]) /\ KwH w' wb (P.length + 1) /\ Kept (wb :: u.ownBlock.toList) w w' := by
 have c0 := hw.out.c0
 have fr := hw.out.fro
 have hl := hw.out.lt
 have hl' : ¬ wb = w.heap.size := by omega
 go_enter func26, ntmps26
 go_wp2_with (at_builtin; refine wpList_appk rfl _ _ rfl hw.out p hp.out N hN h0 hu hP hU rfl rfl ?_)
 intro g cap w3 L4 d0 df dl B3
 have HL := hide1 (And.intro L4 (B3.setCell (p := ⟨wb, 0, none⟩) (.inl (by simp)) (.slice (some ⟨g, 0, none⟩) (P.length + 1) cap)))
 clear L4 B3 c0 fr
 go_wp2_with fail
 go_end0
 exact ⟨rfl, ⟨_, _, HL.out.1, by simp⟩, HL.out.2⟩
end
namespace Byt
def opT (c : Nat) (i : Ins) : List UInt8 :=
 if c = 100 then regName i.rd.toNat else if c = 115 then regName i.rs1.toNat else if c = 116 then regName i.rs2.toNat else if c = 117 then Lib.itoa i.rs1
 else if c = 109 then Lib.itoa i.im ++ 40 :: (regName i.rs1.toNat ++ [41]) else Lib.itoa i.im
def sepT : List Nat -> Bool -> Ins -> List UInt8
 | [], _, _ => []
 | c :: cs, m, i => (if m then [44, 32] else [32]) ++ (opT c i ++ sepT cs true i)
end Byt
structure Tame (i : Ins) : Prop where
 d0 : 0 <= i.rd
 d1 : i.rd < 32
 s0 : 0 <= i.rs1
 s1 : i.rs1 < 32
 t0 : 0 <= i.rs2
 t1 : i.rs2 < 32
 i0 : -10000000000 < i.im
 i1 : i.im < 10000000000
theorem tab_more {P : Program} {w w' : World} {name : String} {k : IntKind} {zs : List Int} (h : Lib.TabIs P w name k zs) (hb : Below w.heap.size w w') : Lib.TabIs P w' name k zs := by
 unfold Lib.TabIs World.var? at h |-
 cases hg : P.globalNamed name with
 | none => rw [hg] at h; simp at h
 | some g =>
  rw [hg] at h
  simp only [Option.bind_some] at h |-
  have hlt : g < w.heap.size := by
   refine Nat.lt_of_not_le fun hle => ?_
   rw [Array.getElem?_eq_none hle] at h; simp at h
  rw [hb.block g hlt]; exact h
theorem grow_below (w : World) (k : Nat) (os : Array Obj) : Below w.heap.size w (Go.Sort.grow (w.drewN k) os) := by
 have h1 : Below w.heap.size w (w.drewN k) := ⟨rfl, rfl, rfl, Nat.le_refl _, fun _ _ => rfl⟩
 refine h1.trans ⟨rfl, rfl, rfl, by unfold Go.Sort.grow; simp, fun j hj => ?_⟩
 show ((w.drewN k).heap ++ os)[j]? = (w.drewN k).heap[j]?
 exact Array.getElem?_append_left hj
def Tb (w : World) : Prop := Lib.TabIs prog w "internal/strconv.uint64pow10" .u64 Lib.pow10Tab
theorem Tb.more {w w' : World} (h : Tb w) (hb : Below w.heap.size w w') : Tb w' := tab_more h hb
theorem a_itoa (v : Int) (h0 : -1099511627776 <= v) (h1 : v <= 1099511627776) (w : World) (ht : Tb w) :
 CB 213 #[.int .i64 v] (Byt.strV (Lib.itoa v)) w := by
 refine (Tryz.strconv_Itoa v (by omega) (by omega) w ht).mono ?_
 rintro e w' ⟨rfl, k, os, rfl⟩
 exact ⟨rfl, grow_below _ _ _⟩
theorem itoa_len (v : Int) (h0 : -1099511627776 <= v) (h1 : v <= 1099511627776) : (Lib.itoa v).length <= 21 := Lib.itoa_length_le v (by omega) (by omega)
theorem regName_len (n : Nat) (h : n < 100) : (Byt.regName n).length <= 11 := by
 have hlen := List.all_eq_true.1 names_short n (by simpa using h)
 rw [decide_eq_true_eq] at hlen
 simp only [Byt.regName, List.length_cons]; omega
theorem a_operandText (c : Nat) (hc : c = 100 \/ c = 115 \/ c = 116 \/ c = 109 \/ c = 106 \/ c = 117 \/ c = 105) (i : Ins) (hi : Tame i) (w : World) (ht : Tb w) :
 CB 216 #[.int .u8 c, insV i] (Byt.strV (Byt.opT c i)) w := by
 obtain ⟨rd, hrd⟩ : ∃ n : Nat, i.rd = n := ⟨i.rd.toNat, by have := hi.d0; omega⟩
 obtain ⟨rs1, hrs1⟩ : ∃ n : Nat, i.rs1 = n := ⟨i.rs1.toNat, by have := hi.s0; omega⟩
 obtain ⟨rs2, hrs2⟩ : ∃ n : Nat, i.rs2 = n := ⟨i.rs2.toNat, by have := hi.t0; omega⟩
 have b0 : rd < 32 := by have := hi.d1; omega
 have b1 : rs1 < 32 := by have := hi.s1; omega
 have b2 : rs2 < 32 := by have := hi.t1; omega
 have b3 := hi.i0
 have b4 := hi.i1
 clear hi
 obtain ⟨op, d, s, t, im, ln⟩ := i
 simp only at hrd hrs1 hrs2 b3 b4
 subst hrd hrs1 hrs2
 unfold insV Byt.opT
 simp only [Int.toNat_natCast]
 have hbw : ∀ o, Below w.heap.size w (w.alloc o) := fun o => (Below.refl _ _).alloc (Nat.le_refl _) _
 have HT : Hid (∀ o, Tb (w.alloc o)) := fun o => ht.more (hbw o)
 rcases hc with rfl | rfl | rfl | rfl | rfl | rfl | rfl
 . simp only [if_true]
   obtain ⟨X, hX⟩ := zn1 (Byt.strV (Byt.regName rd))
   have hr := fun w => a_registerName rd (by omega) w
   exact zq374
 . rw [if_neg (by decide), if_pos rfl]
   obtain ⟨X, hX⟩ := zn1 (Byt.strV (Byt.regName rs1))
   have hr := fun w => a_registerName rs1 (by omega) w
   exact zq374
 . rw [if_neg (by decide), if_neg (by decide), if_pos rfl]
   obtain ⟨X, hX⟩ := zn1 (Byt.strV (Byt.regName rs2))
   have hr := fun w => a_registerName rs2 (by omega) w
   exact zq374
 . rw [if_neg (by decide), if_neg (by decide), if_neg (by decide), if_neg (by decide), if_pos rfl]
   obtain ⟨X, hX⟩ := zn1 (⟨(Byt.regName rs1).toArray⟩ : ByteArray)
   obtain ⟨Y, hY⟩ := zn1 (⟨(Lib.itoa im).toArray⟩ : ByteArray)
   obtain ⟨Z1, hZ1⟩ := zn1 (⟨(Lib.itoa im ++ [40]).toArray⟩ : ByteArray)
   obtain ⟨Z2, hZ2⟩ := zn1 (⟨((Lib.itoa im ++ [40]) ++ Byt.regName rs1).toArray⟩ : ByteArray)
   obtain ⟨Z3, hZ3⟩ := zn1 (⟨(((Lib.itoa im ++ [40]) ++ Byt.regName rs1) ++ [41]).toArray⟩ : ByteArray)
   have l1 := itoa_len im (by omega) (by omega)
   have l2 := regName_len rs1 (by omega)
   have a1 : ∀ w, (Op.stringOp .add Y ⟨#[40]⟩).run prog w = .ok (.string Z1) w := fun w => add_str (a := Y) (b := ⟨#[40]⟩) (c := Z1) (by rw [hY, hZ1]; exact mk_app _ [40]) (by rw [hY]; simp [ByteArray.size]; omega) w
   have a2 : ∀ w, (Op.stringOp .add Z1 X).run prog w = .ok (.string Z2) w := fun w => add_str (a := Z1) (b := X) (c := Z2) (by rw [hZ1, hX, hZ2]; exact mk_app _ _) (by rw [hZ1, hX]; simp [ByteArray.size]; omega) w
   have a3 : ∀ w, (Op.stringOp .add Z2 ⟨#[41]⟩).run prog w = .ok (.string Z3) w := fun w => add_str (a := Z2) (b := ⟨#[41]⟩) (c := Z3) (by rw [hZ2, hZ3]; exact mk_app _ [41]) (by rw [hZ2]; simp [ByteArray.size]; omega) w
   have hr := fun w => a_registerName rs1 (by omega) w
   rw [show Byt.strV (Byt.regName rs1) = .string X by rw [hX]; rfl] at hr
   have hn := fun w ht => a_itoa im (by omega) (by omega) w ht
   rw [show Byt.strV (Lib.itoa im) = .string Y by rw [hY]; rfl] at hn
   obtain ⟨W0, hW0⟩ := zn1 (w.alloc (.cells #[.int .i64 op, .int .i64 rd, .int .i64 rs1, .int .i64 rs2, .int .i64 im, .int .i64 ln] 60))
   have hc2 : W0.cell? ⟨w.heap.size, 2, none⟩ = some (.int .i64 rs1) := by rw [hW0]; simp
   have hl2 : w.heap.size < W0.heap.size := by rw [hW0]; simp
   have hb0 : Below w.heap.size w W0 := by rw [hW0]; exact hbw _
   have ht0 : Tb W0 := ht.more hb0
   have HNA := hide1 ((hn W0.drew (ht0.more (Below.refl _ _).drew)).mono fun e w1 h => (⟨h.1, (h.2.cell (p := ⟨w.heap.size, 2, none⟩) hl2).trans hc2, hide1 (hb0.trans ((Below.refl _ _).drew.trans (h.2.mono (Nat.le_of_lt hl2))))⟩ : _ /\ w1.cell? ⟨w.heap.size, 2, none⟩ = some (.int .i64 rs1) /\ Hid (Below w.heap.size w w1)))
   rw [hW0] at HNA
   clear hc2 hl2 hb0 ht0 hW0
   rw [show Byt.strV (Lib.itoa im ++ 40 :: (Byt.regName rs1 ++ [41])) = .string Z3 by rw [hZ3]; unfold Byt.strV; simp]
   have HR := hide1 hr
   clear hr hn hX hY hZ1 hZ2 hZ3 l1 l2 ht
   go_enter func216, ntmps216
   go_upto_region 11 with fail
   go_region_with (first | (go_at_call 303; refine (HR.out _).mono ?_; rintro e w' ⟨rfl, rfl⟩) | (go_at_call 213; with_reducible refine HNA.out.mono ?_; rintro e w1 ⟨rfl, d2, hb1⟩))
   all_goals (go_wp2; go_ret; exact ⟨rfl, hb1.out⟩)
 . exact zq375
 . rw [if_neg (by decide), if_neg (by decide), if_neg (by decide), if_pos rfl]
   obtain ⟨X, hX⟩ := zn1 (Byt.strV (Lib.itoa (rs1 : Int)))
   have hr := fun w ht => a_itoa (rs1 : Int) (by omega) (by omega) w ht
   exact zq376
 . exact zq375
theorem a_dataText (v : Int) (h0 : -1099511627776 <= v) (h1 : v <= 1099511627776) (n : Int) (w : World) (ht : Tb w) :
 CB 142 #[.int .i64 v, .int .i64 n] (Byt.strV (Byt.nmL (if n = 2 then 72 else 71) ++ 32 :: Lib.itoa v)) w := by
 obtain ⟨o, ho⟩ := zn1 (if n = 2 then 72 else 71 : Nat)
 rw [<- ho]
 have hoo : o <= 72 := by rw [ho]; split <;> omega
 obtain ⟨X, hX⟩ := zn1 (Nm.name o : ByteArray)
 obtain ⟨Y, hY⟩ := zn1 (⟨(Lib.itoa v).toArray⟩ : ByteArray)
 obtain ⟨Z1, hZ1⟩ := zn1 (⟨(Byt.nmL o ++ [32]).toArray⟩ : ByteArray)
 obtain ⟨Z2, hZ2⟩ := zn1 (⟨((Byt.nmL o ++ [32]) ++ Lib.itoa v).toArray⟩ : ByteArray)
 have l1 := itoa_len v h0 h1
 have l2 : (Byt.nmL o).length <= 20 := by have := nm_sz o hoo; unfold Byt.nmL; rw [Array.length_toList]; exact this
 have a1 : ∀ w, (Op.stringOp .add X ⟨#[32]⟩).run prog w = .ok (.string Z1) w := fun w => add_str (a := X) (b := ⟨#[32]⟩) (c := Z1) (by rw [hX, hZ1, <- mk_list (Nm.name o)]; exact mk_app _ [32]) (by rw [hX]; have := nm_sz o hoo; have h2 : (⟨#[32]⟩ : ByteArray).size = 1 := rfl; rw [h2]; omega) w
 have a2 : ∀ w, (Op.stringOp .add Z1 Y).run prog w = .ok (.string Z2) w := fun w => add_str (a := Z1) (b := Y) (c := Z2) (by rw [hZ1, hY, hZ2]; exact mk_app _ _) (by rw [hZ1, hY]; simp [ByteArray.size]; omega) w
 have hn := a_itoa v h0 h1 w ht
 rw [show Byt.strV (Lib.itoa v) = .string Y by rw [hY]; rfl] at hn
 rw [show Byt.strV (Byt.nmL o ++ 32 :: Lib.itoa v) = .string Z2 by rw [hZ2]; unfold Byt.strV; simp]
 have HN := hide1 hn
 have HX := hide1 hX
 clear hn hX hY hZ1 hZ2 l1 l2 ht hoo
 by_cases h2 : n = 2
 . rw [if_pos h2] at ho
   have h2' : (n == 2) = true := by simp [h2]
   subst ho
   have HX' : Hid (Nm.name 72 = X) := HX.out.symm
   exact zq377
 . rw [if_neg h2] at ho
   have h2' : (n == 2) = false := by simp [h2]
   subst ho
   have HX' : Hid (Nm.name 71 = X) := HX.out.symm
   exact zq377
namespace Byt
def insT (i : Ins) : List UInt8 := (if i.ln = 2 then 99 :: 46 :: nmL i.op.toNat else nmL i.op.toNat) ++ sepT (shp i.op.toNat) false i
def textD (x : Int) : List UInt8 × Int :=
 if (decodeD x).2 = 0 then
  if (encodeD (decodeD x).1).2 = 0 /\ (encodeD (decodeD x).1).1 = x then (insT (decodeD x).1, 0)
  else (nmL (if (decodeD x).1.ln = 2 then 72 else 71) ++ 32 :: Lib.itoa x, 0)
 else ([], (decodeD x).2)
end Byt
theorem app_list' (X B : ByteArray) : (X ++ B).data.toList = X.data.toList ++ B.data.toList := by
 rw [ByteArray.data_append, Array.toList_append]
theorem opT_len (c : Nat) (i : Ins) (hi : Tame i) : (Byt.opT c i).length <= 50 := by
 have h1 := regName_len i.rd.toNat (by have := hi.d1; omega)
 have h2 := regName_len i.rs1.toNat (by have := hi.s1; omega)
 have h3 := regName_len i.rs2.toNat (by have := hi.t1; omega)
 have h4 := itoa_len i.im (by have := hi.i0; omega) (by have := hi.i1; omega)
 have h5 := itoa_len i.rs1 (by have := hi.s0; omega) (by have := hi.s1; omega)
 unfold Byt.opT
 repeat (first | omega | split | (simp only [List.length_append, List.length_cons, List.length_nil]; omega))
theorem sep_cons (cs : List Nat) (c : Nat) (K : Nat) (i : Ins) : Byt.sepT (c :: cs) (decide (0 < K)) i = (if 0 < K then [44, 32] else [32]) ++ (Byt.opT c i ++ Byt.sepT cs true i) := by
 by_cases h : 0 < K <;> simp [Byt.sepT, h]
theorem a_insText (i : Ins) (hi : Hid (Tame i)) (o : Nat) (ho : i.op = o) (ho70 : o <= 70) (w : World) (ht : Hid (Tb w)) :
 CB 143 #[insV i] (Byt.strV (Byt.insT i)) w := by
 obtain ⟨T, hT⟩ := zn1 (Byt.insT i)
 rw [<- hT]
 unfold Byt.insT at hT
 rw [show i.op.toNat = o by omega] at hT
 obtain ⟨NM, hNM⟩ := zn1 (Nm.name i.op)
 obtain ⟨S, hS⟩ := zn1 (Nm.shape i.op)
 have hSo := shape_ok o (by omega)
 have hSs : Byt.shp o = S.data.toList.map UInt8.toNat := by rw [hS, ho]; rfl
 have hSl : S.size <= 8 := by rw [hS, ho]; exact hSo.1
 have hSc : Hid (∀ k (h : k < S.size), S[k].toNat = 100 \/ S[k].toNat = 115 \/ S[k].toNat = 116 \/ S[k].toNat = 109 \/ S[k].toNat = 106 \/ S[k].toNat = 117 \/ S[k].toNat = 105) := by rw [hS, ho]; exact hSo.2
 rw [hSs] at hT
 have hsh := short_add o (by omega)
 obtain ⟨SN, hSN⟩ := zn1 (⟨(99 :: 46 :: Byt.nmL o).toArray⟩ : ByteArray)
 have hsn := fun w => a_shortName o (by omega) w
 rw [show Byt.strV (99 :: 46 :: Byt.nmL o) = .string SN by rw [hSN]; rfl, <- ho] at hsn
 obtain ⟨X0, hX0⟩ := zn1 (if i.ln = 2 then SN else NM : ByteArray)
 have hnl : (Byt.nmL o).length <= 20 := by have := nm_sz o (by omega); unfold Byt.nmL; rw [Array.length_toList]; exact this
 have hX0s : X0.size <= 40 := by
  rw [hX0]; split
  . rw [hSN]; simp [ByteArray.size]; omega
  . rw [hNM, ho]; have := nm_sz o (by omega); omega
 have hT0 : Hid (T = X0.data.toList ++ Byt.sepT ((S.data.toList.map UInt8.toNat).drop 0) (decide (0 < 0)) i) := by
  show T = _
  rw [hT, hX0]
  split
  . rw [hSN]; rfl
  . rw [hNM, ho]; rfl
 have HNM := hide1 hNM
 have HS := hide1 hS
 have HSN := hide1 hsn
 clear hT hSo hSs hsh hsn hSN hnl hNM hS ho ho70
 unfold insV
 go_enter func143, ntmps143
 go_wp2_with fail
 refine (a_Name i.op _).mono ?_
 rintro e w' ⟨rfl, rfl⟩
 rw [<- HNM.out]
 go_upto_if 11 with fail
 go_cut [3] from 11 to 14 (fun v wx => v = .string X0 /\ wx = w.alloc (.cells #[.int .i64 i.op, .int .i64 i.rd, .int .i64 i.rs1, .int .i64 i.rs2, .int .i64 i.im, .int .i64 i.ln] 60))
 case first =>
  by_cases h2 : i.ln = 2
  . have h2' : (i.ln == 2) = true := by simp [h2]
    rw [if_pos h2] at hX0
    have HX0 := hide1 hX0
    clear hX0 h2
    go_wp2_with (go_at_call 214; refine (HSN.out _).mono ?_; rintro e w' ⟨rfl, rfl⟩)
    go_meet
    case rel => exact ⟨by rw [HX0.out], rfl⟩
  . have h2' : (i.ln == 2) = false := by simp [h2]
    rw [if_neg h2] at hX0
    have HX0 := hide1 hX0
    clear hX0 h2
    go_wp2
    go_meet
    case rel => exact ⟨by rw [HX0.out], rfl⟩
 case rest =>
  obtain ⟨rfl, rfl⟩ := hcut
  clear hX0 HSN HNM
  go_wp2_with (go_at_call 215; refine (a_Shape i.op _).mono ?_; rintro e w' ⟨rfl, rfl⟩; rw [<- HS.out])
  go_loopw [3, 5] (fun v k5 wr => ∃ (K : Nat) (X : ByteArray), K <= S.size /\ X.size <= 40 + 60 * K /\ v = .string X /\ k5 = .int .i64 K /\ Hid (Ized i w wr) /\ Hid (T = X.data.toList ++ Byt.sepT ((S.data.toList.map UInt8.toNat).drop K) (decide (0 < K)) i)) (fun _ k5 _ => S.size - (intOf k5).toNat)
  case atStart => exact ⟨0, X0, by omega, by omega, rfl, rfl, hide1 (Ized.start i w _), hT0⟩
  case round =>
   obtain ⟨K, X, hK, hXs, rfl, rfl, hz, hh⟩ := hrel
   clear hT0 hX0s
   by_cases hlt : K < S.size
   . rw [drop_sh S K hlt, sep_cons] at hh
     obtain ⟨c, hc⟩ := zn1 (S[K].toNat)
     rw [<- hc] at hh
     have hcl := hSc.out K hlt
     rw [<- hc] at hcl
     have hci : S[K].toNat = c := hc.symm
     have HCL := hide1 hcl
     clear hc hcl
     obtain ⟨X1, hX1⟩ := zn1 (if 0 < K then X ++ ⟨#[44, 32]⟩ else X ++ ⟨#[32]⟩ : ByteArray)
     have hX1l : X1.data.toList = X.data.toList ++ (if 0 < K then [44, 32] else [32]) := by
      rw [hX1]; split <;> rw [app_list']
     have hX1s : X1.size <= X.size + 2 := by
      have h1 : (⟨#[44, 32]⟩ : ByteArray).size = 2 := rfl
      have h2 : (⟨#[32]⟩ : ByteArray).size = 1 := rfl
      rw [hX1]; split <;> rw [ByteArray.size_append] <;> omega
     have a1 : 0 < K -> ∀ w, (Op.stringOp .add X ⟨#[44, 32]⟩).run prog w = .ok (.string X1) w := fun hk w => add_str (a := X) (b := ⟨#[44, 32]⟩) (c := X1) (by rw [hX1, if_pos hk]) (by have h2 : (⟨#[44, 32]⟩ : ByteArray).size = 2 := rfl; rw [h2]; omega) w
     have a2 : ¬ 0 < K -> ∀ w, (Op.stringOp .add X ⟨#[32]⟩).run prog w = .ok (.string X1) w := fun hk w => add_str (a := X) (b := ⟨#[32]⟩) (c := X1) (by rw [hX1, if_neg hk]) (by have h2 : (⟨#[32]⟩ : ByteArray).size = 1 := rfl; rw [h2]; omega) w
     have A1 := hide1 a1
     have A2 := hide1 a2
     obtain ⟨Y, hY⟩ := zn1 (⟨(Byt.opT c i).toArray⟩ : ByteArray)
     have hYs : Y.size <= 50 := by rw [hY]; exact opT_len c i hi.out
     obtain ⟨X2, hX2⟩ := zn1 (X1 ++ Y : ByteArray)
     have a3 : ∀ w, (Op.stringOp .add X1 Y).run prog w = .ok (.string X2) w := fun w => add_str (a := X1) (b := Y) (c := X2) hX2.symm (by omega) w
     have hX2s : X2.size <= 40 + 60 * (K + 1) := by rw [hX2, ByteArray.size_append]; omega
     have hgo : Hid (T = X2.data.toList ++ Byt.sepT ((S.data.toList.map UInt8.toNat).drop (K + 1)) (decide (0 < K + 1)) i) := by
      show T = _
      rw [hh.out, hX2, app_list', hX1l, hY, decide_eq_true (Nat.succ_pos K)]
      simp only [List.append_assoc]
     have hcall := a_operandText c HCL.out i hi.out wr.drew ((ht.out.more hz.out.below).more (Below.refl _ _).drew)
     rw [show Byt.strV (Byt.opT c i) = .string Y by rw [hY]; rfl] at hcall
     have HCALL := hide1 (hcall.mono fun e w1 h => (⟨h.1, hide1 (hz.out.more ((Below.refl _ _).drew.trans h.2))⟩ : _ /\ Hid (Ized i w w1)))
     unfold insV at HCALL
     clear hh hX1 hX1l a1 a2 hY hX2 hcall
     go_upto_if 25 with fail
     go_cut [3] from 25 to 29 (fun v wx => v = .string X1 /\ wx = wr)
     case first =>
      by_cases hk : 0 < K
      . have e1 : ((K : Int) == 0) = false := by simp; omega
        have e2 : (K == 0) = false := by simp; omega
        have b1 := A1.out hk
        clear A1 A2 a3
        exact zq362
      . obtain rfl : K = 0 := by omega
        have b1 := A2.out hk
        clear A1 A2 a3
        exact zq362
     case rest =>
      obtain ⟨rfl, rfl⟩ := hcut
      clear A1 A2
      have z0 := hz.out.c0
      have z1 := hz.out.c1
      have z2 := hz.out.c2
      have z3 := hz.out.c3
      have z4 := hz.out.c4
      have z5 := hz.out.c5
      go_upto_region 11 with fail
      go_region_with (go_at_call 216; with_reducible refine HCALL.out.mono ?_; rintro e w1 ⟨rfl, hz1⟩)
      all_goals clear z0 z1 z2 z3 z4 z5 HCALL a3 hz
      all_goals go_wp2
      all_goals go_roundw
      all_goals first
       | exact ⟨K + 1, X2, by omega, hX2s, rfl, by go_num, hz1, hgo⟩
       | (simp [intOf]; omega)
       | ((repeat apply Exists.intro); exact ⟨⟨K + 1, X2, by omega, hX2s, rfl, by go_num, hz1, hgo⟩, rfl⟩)
   . have hlt' : decide ((K : Int) < (S.size : Int)) = false := by simp; omega
     have hgo : Hid (T = X.data.toList) := by
      show T = _
      rw [hh.out, List.drop_eq_nil_of_le (by rw [List.length_map, Array.length_toList]; show S.size <= K; omega)]; simp [Byt.sepT]
     clear hh
     go_wp2
     go_ret
     exact ⟨by rw [hgo.out]; unfold Byt.strV; rw [mk_list]; rfl, hz.out.below⟩
theorem a_Text (x : Int) (hx : Hid ((decodeD x).2 = 0 -> Tame (decodeD x).1 /\ 0 <= (decodeD x).1.op /\ (decodeD x).1.op <= 70 /\ 0 <= x /\ x <= 4294967295)) (w : World) (ht : Hid (Tb w)) :
 CB 88 #[.int .i64 x] (.tuple #[Byt.strV (Byt.textD x).1, .int .i64 (Byt.textD x).2]) w := by
 obtain ⟨T, hT⟩ := zn1 (Byt.textD x)
 rw [<- hT]
 unfold Byt.textD at hT
 have hdec := i_Decode x w
 obtain ⟨D, hD⟩ := zn1 (decodeD x)
 rw [<- hD] at hdec hT hx
 have HDEC := hide1 hdec
 clear hdec hD
 obtain ⟨i, er⟩ := D
 simp only at hT hx
 unfold insV at HDEC
 by_cases her : er = 0
 . have her' : (er != 0) = false := by simp [her]
   rw [if_pos her] at hT
   obtain ⟨hi, ho0, ho70, hx0, hx1⟩ := hx.out her
   obtain ⟨o, ho⟩ : ∃ o : Nat, i.op = o := ⟨i.op.toNat, by omega⟩
   have hit := fun W hW => a_insText i (hide1 hi) o ho (by omega) W hW
   have hdt := fun W hW => a_dataText x (by omega) (by omega) i.ln W hW
   have henc := fun W => i_Encode i W
   obtain ⟨V, hV⟩ := zn1 (encodeD i)
   rw [<- hV] at henc hT
   obtain ⟨A, hA⟩ := zn1 (Byt.strV (Byt.insT i))
   obtain ⟨B, hB⟩ := zn1 (Byt.strV (Byt.nmL (if i.ln = 2 then 72 else 71) ++ 32 :: Lib.itoa x))
   rw [<- hA] at hit
   rw [<- hB] at hdt
   have HIT := hide1 hit
   have HDT := hide1 hdt
   have HENC := hide1 henc
   have HA := hide1 hA
   have HB := hide1 hB
   unfold insV at HIT HENC
   clear hit hdt henc hV hA hB hi ho0 ho70 hx her ho
   obtain ⟨v, no⟩ := V
   simp only at hT
   go_enter func88, ntmps88
   go_wp2_with fail
   refine HDEC.out.mono ?_
   rintro e w1 ⟨rfl, hb1⟩
   clear HDEC
   have hz1 : Ized i w1 (w1.alloc (.cells #[.int .i64 i.op, .int .i64 i.rd, .int .i64 i.rs1, .int .i64 i.rs2, .int .i64 i.im, .int .i64 i.ln] 60)) := Ized.start i w1 _
   have HZ1 := hide1 hz1
   clear hz1
   go_wp2_with fail
   refine (HENC.out _).mono ?_
   rintro e w2 ⟨rfl, hb2⟩
   have hz2 := HZ1.out.more hb2
   have z0 := hz2.c0
   have z1 := hz2.c1
   have z2 := hz2.c2
   have z3 := hz2.c3
   have z4 := hz2.c4
   have z5 := hz2.c5
   have hb12 := hide1 (hb1.trans (hz2.below.mono hb1.size))
   have ht2 := hide1 (ht.out.more hb12.out)
   clear HZ1 hz2 hb1 hb2 HENC
   by_cases hno : no = 0
   . have hno' : (no != 0) = false := by simp [hno]
     by_cases hv : v = x
     . have hv' : (v != x) = false := by simp [hv]
       rw [if_pos ⟨hno, hv⟩] at hT
       have HT := hide1 hT
       clear hT hno
       have hv2 := hide1 hv
       clear hv
       go_wp2_with (go_at_call 143; refine (HIT.out _ ht2).mono ?_; rintro e w3 ⟨rfl, hb3⟩)
       go_ret2
       exact ⟨by rw [HT.out, HA.out]; rfl, hb12.out.trans (hb3.mono hb12.out.size)⟩
     . have hv' : (v != x) = true := by simp [hv]
       rw [if_neg (fun h => hv h.2)] at hT
       have HT := hide1 hT
       clear hT hno hv
       exact zq378
   . have hno' : (no != 0) = true := by simp [hno]
     rw [if_neg (fun h => hno h.1)] at hT
     have HT := hide1 hT
     clear hT hno
     exact zq378
 . have her' : (er != 0) = true := by simp [her]
   rw [if_neg her] at hT
   have HT := hide1 hT
   clear hT her
   go_enter func88, ntmps88
   go_wp2_with fail
   refine HDEC.out.mono ?_
   rintro e w1 ⟨rfl, hb1⟩
   go_wp2
   go_ret2
   exact ⟨by rw [HT.out]; rfl, hb1.alloc hb1.size _⟩
theorem decode_ways (x : Int) : (decodeD x = (ins0, 2) /\ sizeOf x = 0) \/ ∃ W : Nat, x = W /\ W < 4294967296 /\
 ((sizeOf x = 4 /\ (decodeD x = (⟨0, 0, 0, 0, 0, 4⟩, 0) \/ ∃ n : Nat, 1 <= n /\ n <= 70 /\ rowFits (Tab.longRow n) W = true /\ decodeD x = (rowIns (Tab.longRow n) W, 0))) \/
  (sizeOf x = 2 /\ W < 65536 /\ ¬ W % 4 = 3 /\ (decodeD x = (⟨0, 0, 0, 0, 0, 2⟩, 0) \/ ∃ n : Nat, 1 <= n /\ n <= 26 /\ rowFits (Tab.shortRow n) W = true /\ decodeD x = (rowIns (Tab.shortRow n) W, 0)))) := by
 rcases size_ways x with h | ⟨h, h0, h1⟩
 . left
   exact ⟨by unfold decodeD; rw [if_pos h], h⟩
 . right
   obtain ⟨W, rfl⟩ := Int.eq_ofNat_of_zero_le h0
   refine ⟨W, rfl, by omega, ?_⟩
   rcases h with h | h
   . left
     refine ⟨h, ?_⟩
     unfold decodeD
     rw [h, if_neg (by decide), Int.toNat_natCast]
     cases hs : scan (rowMeans 4 W) 1 (rowCount 4).toNat with
     | none => left; rfl
     | some j =>
      right
      obtain ⟨k, k1, k2, k3⟩ := scan_someE _ _ hs
      have hc : (rowCount 4).toNat = 70 := rfl
      rw [hc] at k2
      unfold rowMeans at k3
      split at k3
      . exact zq379
      . cases k3
   . right
     have hw : W <= 65535 /\ ¬ W % 4 = 3 := by
      unfold sizeOf at h
      split at h
      . cases h
      . split at h
        . cases h
        . split at h
          . omega
          . cases h
     refine ⟨h, by omega, hw.2, ?_⟩
     unfold decodeD
     rw [h, if_neg (by decide), Int.toNat_natCast]
     cases hs : scan (rowMeans 2 W) 1 (rowCount 2).toNat with
     | none => left; rfl
     | some j =>
      right
      obtain ⟨k, k1, k2, k3⟩ := scan_someE _ _ hs
      have hc : (rowCount 2).toNat = 26 := rfl
      rw [hc] at k2
      unfold rowMeans at k3
      split at k3
      . exact zq379
      . cases k3
def bnd (c : UInt8) (q : List UInt8) : Nat := if Pic.cnt (· == c) q = 0 then 0 else if Pic.cnt (· == c) q = 3 then 15 else 2 ^ Pic.cnt (· == c) q - 1
theorem reg_bnd (s : ByteArray) (c : UInt8) (W : Nat) : regOf s c W <= bnd c (Pic.rv s.data.toList s.size) := by
 have h := Pic.val_lt (· == c) (Pic.rv s.data.toList s.size) W
 unfold regOf bnd
 exact zq326
def rowTame (t : Int × ByteArray × Int) : Bool :=
 let q := Pic.rv t.2.1.data.toList t.2.1.size
 let sh := (Nm.shape t.1).data.toList.map UInt8.toNat
 decide (1 <= t.1) && decide (t.1 <= 70) && decide (0 <= toldRd t.2.2) && decide ((bnd 68 q : Int) + bnd 66 q + toldRd t.2.2 <= 31) && decide (0 <= toldRs1 t.2.2) && decide ((bnd 83 q : Int) + bnd 66 q + toldRs1 t.2.2 <= 31) && decide (bnd 84 q <= 31) && decide (Pic.most q < 4294967296) && decide (Pic.high q < 4294967296) &&
 (sh.contains 100 || decide ((bnd 68 q : Int) + bnd 66 q + toldRd t.2.2 = 0)) && (sh.contains 115 || sh.contains 109 || sh.contains 117 || decide ((bnd 83 q : Int) + bnd 66 q + toldRs1 t.2.2 = 0)) && (sh.contains 116 || decide (bnd 84 q = 0)) && (sh.contains 105 || sh.contains 106 || sh.contains 109 || (decide (Pic.most q = 0) && decide (Pic.high q = 0)))
theorem longs_tame : ((List.range 71).all fun n => n == 0 || rowTame (Tab.longRow n)) = true := by decide +kernel
theorem shorts_tame : ((List.range 27).all fun n => n == 0 || rowTame (Tab.shortRow n)) = true := by decide +kernel
theorem imm_tame (s : ByteArray) (neg : Bool) (W : Nat) (h1 : Pic.most (Pic.rv s.data.toList s.size) < 4294967296) (h2 : Pic.high (Pic.rv s.data.toList s.size) < 4294967296) : -10000000000 < immOf s neg W /\ immOf s neg W < 10000000000 := zq327
theorem imm_zero (s : ByteArray) (neg : Bool) (W : Nat) (h1 : Pic.most (Pic.rv s.data.toList s.size) = 0) (h2 : Pic.high (Pic.rv s.data.toList s.size) = 0) : immOf s neg W = 0 := by
 have a := Pic.sum_le_most (Pic.rv s.data.toList s.size) W
 unfold immOf
 rw [Pic.imm_of, h2]
 split <;> omega
structure Real (i : Ins) (o : Nat) : Prop where
 op : i.op = o
 o1 : 1 <= o
 o70 : o <= 70
 tame : Tame i
 rd : 100 ∈ Byt.shp o \/ i.rd = 0
 rs1 : 115 ∈ Byt.shp o \/ 109 ∈ Byt.shp o \/ 117 ∈ Byt.shp o \/ i.rs1 = 0
 rs2 : 116 ∈ Byt.shp o \/ i.rs2 = 0
 im : 105 ∈ Byt.shp o \/ 106 ∈ Byt.shp o \/ 109 ∈ Byt.shp o \/ i.im = 0
theorem row_real (t : Int × ByteArray × Int) (h : rowTame t = true) (W : Nat) : ∃ o, Real (rowIns t W) o := by
 obtain ⟨a, s, r⟩ := t
 have b68 := reg_bnd s 68 W
 have b66 := reg_bnd s 66 W
 have b83 := reg_bnd s 83 W
 have b84 := reg_bnd s 84 W
 simp only [rowTame, Bool.and_eq_true, Bool.or_eq_true, decide_eq_true_eq, List.contains_iff_mem] at h
 obtain ⟨⟨⟨⟨⟨⟨⟨⟨⟨⟨⟨⟨h1, h2⟩, h3⟩, h4⟩, h5⟩, h6⟩, h7⟩, h8⟩, h9⟩, h10⟩, h11⟩, h12⟩, h13⟩ := h
 have him := imm_tame s (hasB r 1) W h8 h9
 obtain ⟨o, rfl⟩ := Int.eq_ofNat_of_zero_le (show 0 <= a by omega)
 refine ⟨o, rfl, by omega, by omega, ⟨?_, ?_, ?_, ?_, ?_, ?_, him.1, him.2⟩, ?_, ?_, ?_, ?_⟩
 . show (0 : Int) <= regOf s 68 W + regOf s 66 W + toldRd r; omega
 . show (regOf s 68 W : Int) + regOf s 66 W + toldRd r < 32; omega
 . show (0 : Int) <= regOf s 83 W + regOf s 66 W + toldRs1 r; omega
 . show (regOf s 83 W : Int) + regOf s 66 W + toldRs1 r < 32; omega
 . show (0 : Int) <= regOf s 84 W; omega
 . show (regOf s 84 W : Int) < 32; omega
 . rcases h10 with h | h
   . exact .inl h
   . exact .inr (by show (regOf s 68 W : Int) + regOf s 66 W + toldRd r = 0; omega)
 . rcases h11 with ((h | h) | h) | h
   . exact .inl h
   . exact .inr (.inl h)
   . exact .inr (.inr (.inl h))
   . exact .inr (.inr (.inr (by show (regOf s 83 W : Int) + regOf s 66 W + toldRs1 r = 0; omega)))
 . rcases h12 with h | h
   . exact .inl h
   . exact .inr (by show (regOf s 84 W : Int) = 0; omega)
 . rcases h13 with ((h | h) | h) | h
   . exact .inl h
   . exact .inr (.inl h)
   . exact .inr (.inr (.inl h))
   . exact .inr (.inr (.inr (imm_zero s (hasB r 1) W h.1 h.2)))
theorem long_real (n W : Nat) (h1 : 1 <= n) (h2 : n <= 70) : ∃ o, Real (rowIns (Tab.longRow n) W) o := by
 have h := List.all_eq_true.1 longs_tame n (by simp; omega)
 exact zq380
theorem short_real (n W : Nat) (h1 : 1 <= n) (h2 : n <= 26) : ∃ o, Real (rowIns (Tab.shortRow n) W) o := by
 have h := List.all_eq_true.1 shorts_tame n (by simp; omega)
 exact zq380
theorem tame_im (o im n : Int) (h0 : -10000000000 < im) (h1 : im < 10000000000) : Tame ⟨o, 0, 0, 0, im, n⟩ := ⟨Int.le_refl 0, (show (0 : Int) < 32 by decide), Int.le_refl 0, (show (0 : Int) < 32 by decide), Int.le_refl 0, (show (0 : Int) < 32 by decide), h0, h1⟩
theorem tame0 (n : Int) : Tame ⟨0, 0, 0, 0, 0, n⟩ := tame_im 0 0 n (by decide) (by decide)
theorem decode_tame (x : Int) : (decodeD x).2 = 0 -> Tame (decodeD x).1 /\ 0 <= (decodeD x).1.op /\ (decodeD x).1.op <= 70 /\ 0 <= x /\ x <= 4294967295 := by
 intro h
 rcases decode_ways x with ⟨hd, _⟩ | ⟨W, hx, hW, hc⟩
 . rw [hd] at h; cases h
 . have hr : ∀ i o, Real i o -> Tame i /\ 0 <= i.op /\ i.op <= 70 := fun i o hr => ⟨hr.tame, by have := hr.op; omega, by have := hr.op; have := hr.o70; omega⟩
   rcases hc with ⟨hz, hc⟩ | ⟨hz, hW2, h3, hc⟩
   . rcases hc with hd | ⟨n, n1, n2, hf, hd⟩
     . exact zq381
     . obtain ⟨o, ho⟩ := long_real n W n1 n2
       exact zq382
   . rcases hc with hd | ⟨n, n1, n2, hf, hd⟩
     . exact zq381
     . obtain ⟨o, ho⟩ := short_real n W n1 n2
       exact zq382
theorem a_Text' (x : Int) (w : World) (ht : Hid (Tb w)) :
 CB 88 #[.int .i64 x] (.tuple #[Byt.strV (Byt.textD x).1, .int .i64 (Byt.textD x).2]) w := a_Text x (decode_tame x) w ht
theorem neq_ins (a0 a1 a2 a3 a4 a5 b0 b1 b2 b3 b4 b5 : Int) (w : World) :
 (binOp .neq 60 (.agg #[.int .i64 a0, .int .i64 a1, .int .i64 a2, .int .i64 a3, .int .i64 a4, .int .i64 a5]) (.agg #[.int .i64 b0, .int .i64 b1, .int .i64 b2, .int .i64 b3, .int .i64 b4, .int .i64 b5])).run prog w =
   .ok (.bool (!(a0 == b0 && a1 == b1 && a2 == b2 && a3 == b3 && a4 == b4 && a5 == b5))) w := by
 rw [run_neq_struct, show (10000 : Nat) = 9998 + 1 + 1 from rfl, run_equalIn_agg w (9998 + 1) 60 _ _ und_ins stood_ins, eqFields_ins 9998 _ _ _ _ _ _ _ _ _ _ _ _ _ fields_ins]
 rfl
def KnR (e : Ending) : Prop := ∃ (W : Int) (X : ByteArray), e = .returned (.tuple #[.int .i64 W, .string X])
set_option maxRecDepth 100000 in
theorem k_knownW (k : Nat) (h : k < 96) (w : World) : Calls prog 100 #[.int .i64 k] w fun e w' => KnR e /\ w' = w := by
 match k, h with
 | 0, _ | 1, _ | 2, _ | 3, _ | 4, _ | 5, _ | 6, _ | 7, _ | 8, _ | 9, _ | 10, _ | 11, _ | 12, _ | 13, _ | 14, _ | 15, _ | 16, _ | 17, _ | 18, _ | 19, _ | 20, _ | 21, _ | 22, _ | 23, _ | 24, _ | 25, _ | 26, _ | 27, _ | 28, _ | 29, _ | 30, _ | 31, _ | 32, _ | 33, _ | 34, _ | 35, _ | 36, _ | 37, _ | 38, _ | 39, _ | 40, _ | 41, _ | 42, _ | 43, _ | 44, _ | 45, _ | 46, _ | 47, _ | 48, _ | 49, _ | 50, _ | 51, _ | 52, _ | 53, _ | 54, _ | 55, _ | 56, _ | 57, _ | 58, _ | 59, _ | 60, _ | 61, _ | 62, _ | 63, _ | 64, _ | 65, _ | 66, _ | 67, _ | 68, _ | 69, _ | 70, _ | 71, _ | 72, _ | 73, _ | 74, _ | 75, _ | 76, _ | 77, _ | 78, _ | 79, _ | 80, _ | 81, _ | 82, _ | 83, _ | 84, _ | 85, _ | 86, _ | 87, _ | 88, _ | 89, _ | 90, _ | 91, _ | 92, _ | 93, _ | 94, _ | 95, _ =>
  as_aux_lemma =>
   try simp only [Int.cast_ofNat_Int, Int.natCast_zero, Int.natCast_one, Int.natCast_ofNat]
   go_enter func100, ntmps100
   go_wp2
   go_ret2
   exact ⟨⟨_, _, rfl⟩, rfl⟩
 | n + 96, h => exact absurd h (by omega)
theorem i_EncW (a0 a1 a2 a3 a4 a5 : Int) (w : World) : Calls prog 87 #[.agg #[.int .i64 a0, .int .i64 a1, .int .i64 a2, .int .i64 a3, .int .i64 a4, .int .i64 a5]] w fun e w' => (∃ v f : Int, e = .returned (.tuple #[.int .i64 v, .int .i64 f])) /\ Below w.heap.size w w' :=
 (i_Encode ⟨a0, a1, a2, a3, a4, a5⟩ w).mono (fun _ _ h => ⟨⟨_, _, h.1⟩, h.2⟩)
theorem i_DecW (x : Int) (w : World) : Calls prog 86 #[.int .i64 x] w fun e w' => (∃ a0 a1 a2 a3 a4 a5 f : Int, e = .returned (.tuple #[.agg #[.int .i64 a0, .int .i64 a1, .int .i64 a2, .int .i64 a3, .int .i64 a4, .int .i64 a5], .int .i64 f])) /\ Below w.heap.size w w' :=
 (i_Decode x w).mono (fun _ _ h => ⟨⟨_, _, _, _, _, _, _, h.1⟩, h.2⟩)
theorem a_TxtW (x : Int) (w : World) (ht : Tb w) : Calls prog 88 #[.int .i64 x] w fun e w' => (∃ (X : ByteArray) (f : Int), e = .returned (.tuple #[.string X, .int .i64 f])) /\ Below w.heap.size w w' :=
 (a_Text' x w (hide1 ht)).mono (fun _ _ h => ⟨⟨_, _, h.1⟩, h.2⟩)
theorem a_AsmW (s : ByteArray) (w : World) : Calls prog 67 #[.string s] w fun e w' => (∃ (X : ByteArray) (er n : Int), e = .returned (.tuple #[.string X, .int .i64 er, .int .i64 n])) /\ Below w.heap.size w w' :=
 (a_Assemble s w).mono (fun _ _ h => ⟨⟨_, _, _, h.1⟩, h.2⟩)
theorem u_LeW (v : Int) (n : Int) (hn : n = 2 \/ n = 4) (w : World) : Calls prog 89 #[.int .i64 v, .int .i64 n] w fun e w' => (∃ X : ByteArray, e = .returned (.string X)) /\ Below w.heap.size w w' := by
 rcases hn with rfl | rfl
 . exact (u_Le v 2 (by decide) w).mono (fun _ _ h => ⟨⟨_, h.1⟩, h.2⟩)
 . exact (u_Le v 4 (by decide) w).mono (fun _ _ h => ⟨⟨_, h.1⟩, h.2⟩)
theorem cells6 {w1 w2 : World} {a0 a1 a2 a3 a4 a5 : Value} {t : Nat} {n : Nat} (h : Below n (w1.alloc (.cells #[a0, a1, a2, a3, a4, a5] t)) w2) (hn : w1.heap.size < n) :
 w2.cell? ⟨w1.heap.size, 0, none⟩ = some a0 /\ w2.cell? ⟨w1.heap.size, 1, none⟩ = some a1 /\ w2.cell? ⟨w1.heap.size, 2, none⟩ = some a2 /\ w2.cell? ⟨w1.heap.size, 3, none⟩ = some a3 /\ w2.cell? ⟨w1.heap.size, 4, none⟩ = some a4 /\ w2.cell? ⟨w1.heap.size, 5, none⟩ = some a5 := by
 refine ⟨(h.cell (p := ⟨w1.heap.size, 0, none⟩) hn).trans ?_, (h.cell (p := ⟨w1.heap.size, 1, none⟩) hn).trans ?_, (h.cell (p := ⟨w1.heap.size, 2, none⟩) hn).trans ?_, (h.cell (p := ⟨w1.heap.size, 3, none⟩) hn).trans ?_, (h.cell (p := ⟨w1.heap.size, 4, none⟩) hn).trans ?_, (h.cell (p := ⟨w1.heap.size, 5, none⟩) hn).trans ?_⟩ <;> simp [go_sem]
theorem lt_of6 {w1 w2 : World} {o : Obj} {n : Nat} (h : Below n (w1.alloc o) w2) : w1.heap.size < w2.heap.size := by
 have := h.size
 simp at this; omega
def SomeB (e : Ending) : Prop := ∃ r, e = .returned (.bool r)
set_option maxRecDepth 100000 in
theorem k_wordW (x : Int) (w : World) (ht : Hid (Tb w)) :
 Calls prog 40 #[.int .i64 x] w fun e w' => SomeB e /\ Below w.heap.size w w' := by
 have hq := eql_ins
 have hn := neq_ins
 go_enter func40, ntmps40
 go_wp2_with fail
 refine (i_DecW x w).mono ?_
 rintro e w1 ⟨⟨i0, i1, i2, i3, i4, i5, er, rfl⟩, hb1⟩
 go_upto_if 71 with fail
 all_goals first
  | (go_ret; exact ⟨⟨_, rfl⟩, hb1.alloc hb1.size _⟩)
  | skip
 all_goals
  go_cut [] from 71 to 104 (fun wx => Hid (Below w.heap.size w wx))
  case first =>
   go_wp2_with (first | (go_at_call 87; refine (i_EncW _ _ _ _ _ _ _).mono ?_; rintro e w2 ⟨⟨v, f, rfl⟩, hb2⟩; have HB2 := hide1 ((hb1.alloc hb1.size _).trans (hb2.mono (hb1.alloc hb1.size _).size)); have HH2 := hide1 hb2; clear hb2) | (go_at_call 86; refine (i_DecW _ _).mono ?_; rintro e w3 ⟨⟨j0, j1, j2, j3, j4, j5, er2, rfl⟩, hb3⟩; have HB3 := hide1 (HB2.out.trans (hb3.mono HB2.out.size)); obtain ⟨y0, y1, y2, y3, y4, y5⟩ := cells6 (HH2.out.trans (hb3.mono HH2.out.size)) (by simp); have yl := lt_of6 (HH2.out.trans (hb3.mono HH2.out.size)); clear hb3 HB2 HH2))
   all_goals first
    | (go_meet; case rel => exact hide1 (hb1.alloc hb1.size _))
    | (go_ret; exact ⟨⟨_, rfl⟩, hb1.alloc hb1.size _⟩)
    | (go_ret; exact ⟨⟨_, rfl⟩, HB2.out⟩)
    | (go_meet; case rel => exact hide1 (HB3.out.alloc HB3.out.size _))
    | (go_ret; exact ⟨⟨_, rfl⟩, HB3.out.alloc HB3.out.size _⟩)
  case rest =>
   clear hb1 hq hn
   go_wp2_with (first | (go_at_call 88; refine (a_TxtW _ _ (ht.out.more hcut.out)).mono ?_; rintro e w2 ⟨⟨X, f, rfl⟩, hb2⟩; have HB2 := hide1 (hcut.out.trans (hb2.mono hcut.out.size)); clear hb2) | (go_at_call 67; refine (a_AsmW _ _).mono ?_; rintro e w3 ⟨⟨Y, f3, n3, rfl⟩, hb3⟩; have HB3 := hide1 (HB2.out.trans (hb3.mono HB2.out.size)); clear hb3) | (go_at_call 89; refine (u_LeW _ _ (by decide) _).mono ?_; rintro e w4 ⟨⟨Z, rfl⟩, hb4⟩; have HB4 := hide1 (HB3.out.trans (hb4.mono HB3.out.size)); clear hb4))
   all_goals
    go_ret
    exact ⟨⟨_, rfl⟩, HB4.out⟩
set_option maxRecDepth 100000 in
theorem k_goldW (k : Nat) (hk : k < 96) (w : World) (ht : Hid (Tb w)) :
 Calls prog 51 #[.int .i64 k] w fun e w' => SomeB e /\ Below w.heap.size w w' := by
 have HK := hide1 (k_knownW k hk w)
 go_enter func51, ntmps51
 go_wp2_with fail
 refine HK.out.mono ?_
 rintro e w1 ⟨⟨W, X, rfl⟩, hw1⟩
 rw [hw1]
 clear hw1 HK
 go_wp2_with (first | (go_at_call 88; refine (a_TxtW _ _ ht.out).mono ?_; rintro e w2 ⟨⟨X2, f, rfl⟩, hb2⟩; have HB2 := hide1 hb2; clear hb2) | (go_at_call 67; refine (a_AsmW _ _).mono ?_; rintro e w3 ⟨⟨Y, f3, n3, rfl⟩, hb3⟩; have HB3 := hide1 (HB2.out.trans (hb3.mono HB2.out.size)); clear hb3) | (go_at_call 89; refine (u_LeW _ _ (by decide) _).mono ?_; rintro e w4 ⟨⟨Z, rfl⟩, hb4⟩; have HB4 := hide1 (HB3.out.trans (hb4.mono HB3.out.size)); clear hb4))
 all_goals
  go_ret
  exact ⟨⟨_, rfl⟩, HB4.out⟩
section
attribute [local go_sem ↓] Go.wp_at_zero Go.wp_at_succ
set_option maxRecDepth 100000 in
theorem k_divides (mb rb : Nat) (a b : Int) (a0 : 0 <= a) (a1 : a < 4294967296) (b0 : 0 <= b) (b1 : b < 4294967296) (w : World) (hw : Hid (Mx w mb rb)) : Calls prog 92 #[.pointer (some ⟨mb, 0, none⟩), .int .i64 a, .int .i64 b] w fun o w' => BoolR o /\ w' = w := by
 have RG := hide1 (fun i => k_reg mb rb i w hw)
 have MI := hide1 (fun x h0 h1 => k_minus x h0 h1 w)
 go_enter func92, ntmps92
 exact zq383
set_option maxRecDepth 100000 in
theorem k_multiplies (mb rb : Nat) (a b : Int) (a0 : 0 <= a) (a1 : a < 4294967296) (b0 : 0 <= b) (b1 : b < 4294967296) (w : World) (hw : Hid (Mx w mb rb)) : Calls prog 93 #[.pointer (some ⟨mb, 0, none⟩), .int .i64 a, .int .i64 b] w fun o w' => BoolR o /\ w' = w := by
 have RG := hide1 (fun i => k_reg mb rb i w hw)
 go_enter func93, ntmps93
 exact zq384
set_option maxRecDepth 100000 in
theorem k_forms (mb rb : Nat) (a b : Int) (w : World) (hw : Hid (Mx w mb rb)) : Calls prog 99 #[.pointer (some ⟨mb, 0, none⟩), .int .i64 a, .int .i64 b] w fun o w' => BoolR o /\ w' = w := by
 have RG := hide1 (fun i => k_reg mb rb i w hw)
 go_enter func99, ntmps99
 exact zq384
set_option maxRecDepth 100000 in
theorem k_bitwise (mb rb : Nat) (a b : Int) (a0 : 0 <= a) (a1 : a < 4294967296) (b0 : 0 <= b) (b1 : b < 4294967296) (w : World) (hw : Hid (Mx w mb rb)) : Calls prog 94 #[.pointer (some ⟨mb, 0, none⟩), .int .i64 a, .int .i64 b] w fun o w' => BoolR o /\ w' = w := by
 have RG := hide1 (fun i => k_reg mb rb i w hw)
 have MI := hide1 (fun x h0 h1 => k_minus x h0 h1 w)
 go_enter func94, ntmps94
 exact zq383
set_option maxRecDepth 100000 in
theorem k_le (s : ByteArray) (n : Nat) (h : n + 4 <= s.size) (hs : s.size <= 100000) (w : World) : Calls prog 145 #[.string s, .int .i64 n] w fun o w' => (∃ v : Int, o = .returned (.int .i64 v)) /\ Kept [] w w' := by
 have i0 : n < s.size := by omega
 have i1 : n + 1 < s.size := by omega
 have i2 : n + 2 < s.size := by omega
 have i3 : n + 3 < s.size := by omega
 have w1 : IntKind.i64.wrap ((n : Int) + 1) = (n : Int) + 1 := zq115
 have w2 : IntKind.i64.wrap ((n : Int) + 2) = (n : Int) + 2 := zq115
 have w3 : IntKind.i64.wrap ((n : Int) + 3) = (n : Int) + 3 := zq115
 have j0 : (0 : Int) <= (n : Int) /\ (n : Int) < (s.size : Int) := by omega
 have j1 : (0 : Int) <= (n : Int) + 1 /\ (n : Int) + 1 < (s.size : Int) := by omega
 have j2 : (0 : Int) <= (n : Int) + 2 /\ (n : Int) + 2 < (s.size : Int) := by omega
 have j3 : (0 : Int) <= (n : Int) + 3 /\ (n : Int) + 3 < (s.size : Int) := by omega
 go_enter func145, ntmps145
 go_upto_region 1 with fail
 go_region
 all_goals
  go_wp2_with fail
  go_ret
  exact ⟨⟨_, rfl⟩, (Kept.refl _ _).drew⟩
theorem k_wordAt (mb rb z : Nat) (off : Int) (h0 : 0 <= off) (h1 : off + 4 <= z) (w : World) (hw : Hid (Mz w mb rb z)) : Calls prog 97 #[.pointer (some ⟨mb, 0, none⟩), .int .i64 off] w fun o w' => (∃ v : Int, o = .returned (.int .i64 v)) /\ Kept [] w w' := by
 have P := hide1 (m_Peek mb rb z off 4 (by decide) w hw.out)
 go_enter func97, ntmps97
 go_wp2_with fail
 refine P.out.mono ?_
 rintro o w1 ⟨⟨t, e, q0, q1, rfl⟩, rfl⟩
 have ht : t.size = 4 := by have := q0 (by omega) h0 h1; omega
 have L := hide1 (k_le t 0 (by omega) (by omega) w1)
 clear q0 q1 ht P
 go_wp2_with fail
 refine L.out.mono ?_
 rintro o w2 ⟨⟨v, rfl⟩, hk2⟩
 have HK := hide1 hk2
 clear hk2 L
 go_wp2_with fail
 go_ret
 exact ⟨⟨v, rfl⟩, HK.out⟩
theorem k_minusA (a : Int) (w : World) : Calls prog 98 #[.int .i64 a] w fun o w' => (∃ v : Int, o = .returned (.int .i64 v)) /\ w' = w := by
 go_enter func98, ntmps98
 go_wp2_with fail
 all_goals
  go_ret
  exact ⟨⟨_, rfl⟩, rfl⟩
theorem m_Reg0 (mb rb : Nat) (w : World) (hw : Mx w mb rb) (i : Int) : Calls prog 91 #[.pointer (some ⟨mb, 0, none⟩), .int .i64 i] w fun o w' => IntR o /\ w' = w := k_reg mb rb i w (hide1 hw)
set_option maxRecDepth 100000 in
theorem k_maths (a b : Int) (w : World) : Calls prog 41 #[.int .i64 a, .int .i64 b] w fun o w' => BoolR o /\ Kept [] w w' := by
 go_enter func41, ntmps41
 go_wp2_with fail
 refine (k_built _ _ _ w).mono ?_
 rintro o w1 ⟨rfl | ⟨mb, rb, l1, l2, rfl, hm⟩, hk⟩
 . exact zq385
 have M1 := hide1 hm
 have K1 := hide1 hk
 clear hm hk
 go_wp2_with fail
 refine (m_Run mb rb _ 25 w1 M1.out).mono ?_
 rintro o w2 ⟨⟨v, er, q0, q1, rfl⟩, hm, hk⟩
 have M2 := hide1 hm
 have K2 := hide1 (kept_new K1.out hk l1 l2)
 clear hm hk M1 K1
 have RG := hide1 (fun i => m_Reg0 mb rb w2 M2.out.m i)
 go_wp2_with (first | (go_at_call 91; refine (RG.out _).mono ?_; rintro o wq ⟨⟨v, h0, h1, rfl⟩, hwq⟩; rw [hwq]; clear hwq wq) | (go_at_call 92; refine (k_divides mb rb _ _ (by omega) (by omega) (by omega) (by omega) _ (hide1 M2.out.m)).mono ?_; rintro o wq ⟨⟨vb, rfl⟩, hwq⟩; rw [hwq]; clear hwq wq) | (go_at_call 93; refine (k_multiplies mb rb _ _ (by omega) (by omega) (by omega) (by omega) _ (hide1 M2.out.m)).mono ?_; rintro o wq ⟨⟨vb, rfl⟩, hwq⟩; rw [hwq]; clear hwq wq) | (go_at_call 94; refine (k_bitwise mb rb _ _ (by omega) (by omega) (by omega) (by omega) _ (hide1 M2.out.m)).mono ?_; rintro o wq ⟨⟨vb, rfl⟩, hwq⟩; rw [hwq]; clear hwq wq))
 all_goals
  go_ret
  exact ⟨⟨_, rfl⟩, K2.out⟩
set_option maxRecDepth 100000 in
theorem k_pair (a b : Int) (w : World) : Calls prog 50 #[.int .i64 a, .int .i64 b] w fun o w' => BoolR o /\ Kept [] w w' := by
 go_enter func50, ntmps50
 go_wp2_with fail
 refine (k_built _ _ _ w).mono ?_
 rintro o w1 ⟨rfl | ⟨mb, rb, l1, l2, rfl, hm⟩, hk⟩
 . exact zq385
 have M1 := hide1 hm
 have K1 := hide1 hk
 clear hm hk
 go_wp2_with fail
 refine (m_Run mb rb _ 13 w1 M1.out).mono ?_
 exact zq386
set_option maxRecDepth 100000 in
theorem k_loads (a b : Int) (w : World) : Calls prog 47 #[.int .i64 a, .int .i64 b] w fun o w' => BoolR o /\ Kept [] w w' := by
 go_enter func47, ntmps47
 go_wp2_with fail
 refine (k_built _ _ _ w).mono ?_
 rintro o w1 ⟨rfl | ⟨mb, rb, l1, l2, rfl, hm⟩, hk⟩
 . exact zq385
 have M1 := hide1 hm
 have K1 := hide1 hk
 clear hm hk
 go_wp2_with fail
 refine (m_Run mb rb _ 22 w1 M1.out).mono ?_
 exact zq386
set_option maxRecDepth 100000 in
theorem k_self (k : Int) (w : World) : Calls prog 44 #[.int .i64 k] w fun o w' => BoolR o /\ Kept [] w w' := by
 go_enter func44, ntmps44
 go_wp2_with fail
 refine (k_built _ _ _ w).mono ?_
 rintro o w1 ⟨rfl | ⟨mb, rb, l1, l2, rfl, hm⟩, hk⟩
 . exact zq385
 have M1 := hide1 hm
 have K1 := hide1 hk
 clear hm hk
 go_wp2_with fail
 refine (m_Run mb rb _ 12 w1 M1.out).mono ?_
 exact zq386
set_option maxRecDepth 100000 in
theorem k_branches (a b : Int) (w : World) : Calls prog 48 #[.int .i64 a, .int .i64 b] w fun o w' => BoolR o /\ Kept [] w w' := by
 go_enter func48, ntmps48
 go_wp2_with fail
 refine (k_built _ _ _ w).mono ?_
 rintro o w1 ⟨rfl | ⟨mb, rb, l1, l2, rfl, hm⟩, hk⟩
 . exact zq385
 have M1 := hide1 hm
 have K1 := hide1 hk
 clear hm hk
 go_wp2_with fail
 refine (m_Run mb rb _ 29 w1 M1.out).mono ?_
 rintro o w2 ⟨⟨v, er, q0, q1, rfl⟩, hm, hk⟩
 have M2 := hide1 hm
 have K2 := hide1 (kept_new K1.out hk l1 l2)
 clear hm hk M1 K1
 have RG := hide1 (fun i => m_Reg0 mb rb w2 M2.out.m i)
 go_upto_if 33 with fail
 go_cut [6] (fun p wx => (∃ x : Int, p = .int .i64 x) /\ wx = w2)
 case first =>
  exact zq387
 case rest =>
 obtain ⟨⟨x33, rfl⟩, hwc⟩ := hcut
 rw [hwc]
 clear hwc
 go_upto_if 44 with ((go_at_call 98; refine (k_minusA _ _).mono ?_; rintro o wq ⟨⟨vm, rfl⟩, hwq⟩; rw [hwq]; clear hwq wq))
 go_cut [6] (fun p wx => (∃ x : Int, p = .int .i64 x) /\ wx = w2)
 case first =>
  exact zq387
 case rest =>
 obtain ⟨⟨x44, rfl⟩, hwc⟩ := hcut
 rw [hwc]
 clear hwc
 go_upto_if 51 with fail
 go_cut [6] (fun p wx => (∃ x : Int, p = .int .i64 x) /\ wx = w2)
 case first =>
  exact zq387
 case rest =>
 obtain ⟨⟨x51, rfl⟩, hwc⟩ := hcut
 rw [hwc]
 clear hwc
 go_wp2_with (first | (go_at_call 91; refine (RG.out _).mono ?_; rintro o wq ⟨⟨v, h0, h1, rfl⟩, hwq⟩; rw [hwq]; clear hwq wq) | (go_at_call 98; refine (k_minusA _ _).mono ?_; rintro o wq ⟨⟨vm, rfl⟩, hwq⟩; rw [hwq]; clear hwq wq) | (go_at_call 99; refine (k_forms mb rb _ _ _ (hide1 M2.out.m)).mono ?_; rintro o wq ⟨⟨vb, rfl⟩, hwq⟩; rw [hwq]; clear hwq wq))
 all_goals
  go_ret
  exact ⟨⟨_, rfl⟩, K2.out⟩
set_option maxRecDepth 100000 in
theorem k_alarm (a b : Int) (w : World) : Calls prog 43 #[.int .i64 a, .int .i64 b] w fun o w' => BoolR o /\ Kept [] w w' := by
 go_enter func43, ntmps43
 go_wp2_with fail
 refine (k_built _ _ _ w).mono ?_
 rintro o w1 ⟨rfl | ⟨mb, rb, l1, l2, rfl, hm⟩, hk⟩
 . exact zq385
 have M1 := hide1 hm
 have K1 := hide1 hk
 clear hm hk
 go_wp2_with fail
 refine (m_Run mb rb _ 8 w1 M1.out).mono ?_
 rintro o w2 ⟨⟨v, er, q0, q1, rfl⟩, hm, hk⟩
 have M2 := hide1 hm
 have K2 := hide1 (kept_new K1.out hk l1 l2)
 clear hm hk M1 K1
 go_wp2_with fail
 refine (m_Tick mb rb _ a w2 M2.out).mono ?_
 rintro o w3 ⟨⟨er, rfl⟩, hm, hk⟩
 have M3 := hide1 hm
 have K3 := hide1 (kept_new K2.out hk l1 l2)
 clear hm hk M2 K2
 go_wp2_with fail
 refine (m_Run mb rb _ 12 w3 M3.out).mono ?_
 rintro o w4 ⟨⟨v, er, q0, q1, rfl⟩, hm, hk⟩
 have M4 := hide1 hm
 have K4 := hide1 (kept_new K3.out hk l1 l2)
 clear hm hk M3 K3
 have CR := hide1 (fun i => k_csr mb rb i w4 (hide1 M4.out.m))
 have RG := hide1 (fun i => m_Reg0 mb rb w4 M4.out.m i)
 go_wp2_with (first | (go_at_call 95; refine (CR.out _).mono ?_; rintro o wq ⟨⟨v, h0, h1, rfl⟩, hkq⟩; have KQ := hide1 (K4.out.trans hkq); clear hkq) | (go_at_call 91; refine (RG.out _).mono ?_; rintro o wq ⟨⟨v, h0, h1, rfl⟩, hwq⟩; rw [hwq]; clear hwq wq))
 all_goals
  go_ret
  first | exact ⟨⟨_, rfl⟩, K4.out⟩ | exact ⟨⟨_, rfl⟩, KQ.out⟩
set_option maxRecDepth 100000 in
theorem k_echo (s : ByteArray) (hs : s.size <= 1125899906842624) (w : World) : Calls prog 42 #[.string s] w fun o w' => BoolR o /\ Kept [] w w' := by
 go_enter func42, ntmps42
 go_wp2_with fail
 refine (k_built _ _ _ w).mono ?_
 rintro o w1 ⟨rfl | ⟨mb, rb, l1, l2, rfl, hm⟩, hk⟩
 . exact zq385
 have M1 := hide1 hm
 have K1 := hide1 hk
 clear hm hk
 go_wp2_with fail
 refine (m_Feed mb rb _ s w1 M1.out).mono ?_
 rintro o w2 ⟨⟨nf, ef, f0, f1, f2, rfl⟩, hm, hk⟩
 have M2 := hide1 hm
 have K2 := hide1 (kept_new K1.out hk l1 l2)
 clear hm hk M1 K1
 go_wp2_with fail
 refine (m_Run mb rb _ 64 w2 M2.out).mono ?_
 rintro o w3 ⟨⟨v, er, q0, q1, rfl⟩, hm, hk⟩
 have M3 := hide1 hm
 have K3 := hide1 (kept_new K2.out hk l1 l2)
 clear hm hk M2 K2
 go_wp2_with fail
 refine (m_Drain mb rb _ w3 M3.out).mono ?_
 rintro o w4 ⟨⟨sd, dz, rfl⟩, hm, hk⟩
 have M4 := hide1 hm
 have K4 := hide1 (kept_new K3.out hk l1 l2)
 clear hm hk M3 K3
 have RG := hide1 (fun i => m_Reg0 mb rb w4 M4.out.m i)
 go_wp2_with (first | (go_at_call 91; refine (RG.out _).mono ?_; rintro o wq ⟨⟨v, h0, h1, rfl⟩, hwq⟩; rw [hwq]; clear hwq wq))
 all_goals
  go_ret
  exact ⟨⟨_, rfl⟩, K4.out⟩
set_option maxRecDepth 100000 in
theorem k_amos (a b : Int) (w : World) : Calls prog 49 #[.int .i64 a, .int .i64 b] w fun o w' => BoolR o /\ Kept [] w w' := by
 go_enter func49, ntmps49
 go_wp2_with fail
 refine (k_built _ _ _ w).mono ?_
 rintro o w1 ⟨rfl | ⟨mb, rb, l1, l2, rfl, hm⟩, hk⟩
 . exact zq385
 have M1 := hide1 hm
 have K1 := hide1 hk
 clear hm hk
 go_wp2_with fail
 refine (m_Run mb rb _ 30 w1 M1.out).mono ?_
 rintro o w2 ⟨⟨v, er, q0, q1, rfl⟩, hm, hk⟩
 have M2 := hide1 hm
 have K2 := hide1 (kept_new K1.out hk l1 l2)
 clear hm hk M1 K1
 have RG := hide1 (fun i => m_Reg0 mb rb w2 M2.out.m i)
 by_cases h30 : v = 30
 . subst h30
   go_wp2_with fail
   go_loopw [8] (fun c wr => ∃ i : Nat, i <= 21 /\ c = .int .i64 i /\ wr = w2) (fun c _ => 30 - (intOf c).toNat)
   case atStart => exact ⟨3, by omega, rfl, rfl⟩
   case round =>
    obtain ⟨i, hi, rfl, rfl⟩ := hrel
    by_cases hlt : i < 20
    . have hlt' : decide ((i : Int) < 20) = true := by simp; omega
      go_wp2_with (first | (go_at_call 91; refine (RG.out _).mono ?_; rintro o wq ⟨⟨v, h0, h1, rfl⟩, hwq⟩; rw [hwq]; clear hwq wq))
      all_goals first
       | (go_ret; exact ⟨⟨_, rfl⟩, K2.out⟩)
       | (go_roundw
          case rel => exact ⟨i + 2, by omega, by go_num, by first | rfl | trivial⟩
          case measure => simp [intOf]; omega)
    . have hlt' : decide ((i : Int) < 20) = false := by simp; omega
      go_wp2_with (first | (go_at_call 91; refine (RG.out _).mono ?_; rintro o wq ⟨⟨v, h0, h1, rfl⟩, hwq⟩; rw [hwq]; clear hwq wq) | (go_at_call 98; refine (k_minusA _ _).mono ?_; rintro o wq ⟨⟨vm, rfl⟩, hwq⟩; rw [hwq]; clear hwq wq))
      all_goals
       go_ret
       exact ⟨⟨_, rfl⟩, K2.out⟩
 . have q : (v != 30) = true := by simp [h30]
   have q' : (v == 30) = false := by simp [h30]
   clear h30
   go_wp2_with fail
   go_ret
   exact ⟨⟨_, rfl⟩, K2.out⟩
set_option maxRecDepth 100000 in
theorem k_mapper (s : ByteArray) (va v root low : Int) (w : World) : Calls prog 96 #[.string s, .int .i64 va, .int .i64 v, .int .i64 root, .int .i64 low] w fun e w' => MadeR w w' 16384 e := by
 have N := hide1 (m_New 16384 (by decide) w)
 go_enter func96, ntmps96
 go_wp2_with fail
 refine N.out.mono ?_
 rintro o w1 ⟨rfl, hm1, hk1⟩
 have M1 := hide1 hm1
 have K1 := hide1 hk1
 clear N hm1 hk1
 go_wp2_with fail
 refine (a_Asm' s _).mono ?_
 rintro o w2 ⟨⟨X, er, n, rfl⟩, hk2⟩
 have M2 := hide1 (M1.out.kept hk2)
 have K2 := hide1 (K1.out.trans hk2)
 clear hk2 M1 K1
 by_cases her : er = 0
 . have q : (er != 0) = false := by simp [her]
   have q' : (er == 0) = true := by simp [her]
   clear her
   go_wp2_with fail
   refine (m_Load _ _ _ _ _ w2 M2.out).mono ?_
   rintro o w3 ⟨⟨e2, rfl⟩, hm, hk⟩
   have M3 := hide1 hm
   have K3 := hide1 (kept_new K2.out hk (by omega) (by omega))
   clear hm hk M2 K2
   go_wp2_with fail
   refine (u_Le4' _ _).mono ?_
   rintro o w4 ⟨⟨A0, hA0, rfl⟩, hk⟩
   have M4 := hide1 (M3.out.kept hk)
   have K4 := hide1 (K3.out.trans hk)
   clear hk M3 K3
   go_wp2_with fail
   refine (m_Load _ _ _ _ _ w4 M4.out).mono ?_
   rintro o w5 ⟨⟨e4, rfl⟩, hm, hk⟩
   have M5 := hide1 hm
   have K5 := hide1 (kept_new K4.out hk (by omega) (by omega))
   clear hm hk M4 K4
   go_wp2_with fail
   refine (u_Le4' _ _).mono ?_
   rintro o w6 ⟨⟨A, hA, rfl⟩, hk⟩
   have M6 := hide1 (M5.out.kept hk)
   have K6 := hide1 (K5.out.trans hk)
   clear hk M5 K5
   go_wp2_with fail
   refine (u_Le4' _ _).mono ?_
   rintro o w7 ⟨⟨B, hB, rfl⟩, hk⟩
   have M7 := hide1 (M6.out.kept hk)
   have K7 := hide1 (K6.out.trans hk)
   clear hk M6 K6
   go_wp2_with fail
   refine (u_Le4' _ _).mono ?_
   rintro o w8 ⟨⟨C, hC, rfl⟩, hk⟩
   have M8 := hide1 (M7.out.kept hk)
   have K8 := hide1 (K7.out.trans hk)
   clear hk M7 K7
   go_wp2_with fail
   refine (u_Le4' _ _).mono ?_
   rintro o w9 ⟨⟨D, hD, rfl⟩, hk⟩
   have M9 := hide1 (M8.out.kept hk)
   have K9 := hide1 (K8.out.trans hk)
   clear hk M8 K8
   obtain ⟨c1, g1, z1, hc1⟩ := add_in A B (by omega)
   obtain ⟨c2, g2, z2, hc2⟩ := add_in c1 C (by omega)
   obtain ⟨c3, g3, z3, hc3⟩ := add_in c2 D (by omega)
   clear g1 g2 g3 z1 z2 z3 hA hB hC hD hA0
   go_wp2_with fail
   refine (m_Load _ _ _ _ _ w9 M9.out).mono ?_
   rintro o w10 ⟨⟨e9, rfl⟩, hm, hk⟩
   have M10 := hide1 hm
   have K10 := hide1 (kept_new K9.out hk (by omega) (by omega))
   clear hm hk M9 K9
   go_wp2_with fail
   refine (u_Le4' _ _).mono ?_
   rintro o w11 ⟨⟨F, hF, rfl⟩, hk⟩
   have M11 := hide1 (M10.out.kept hk)
   have K11 := hide1 (K10.out.trans hk)
   clear hk M10 K10
   go_wp2_with fail
   refine (m_Load _ _ _ _ _ w11 M11.out).mono ?_
   rintro o w12 ⟨⟨e11, rfl⟩, hm, hk⟩
   have M12 := hide1 hm
   have K12 := hide1 (kept_new K11.out hk (by omega) (by omega))
   clear hm hk M11 K11
   go_wp2_with fail
   refine (u_Le4' _ _).mono ?_
   rintro o w13 ⟨⟨G, hG, rfl⟩, hk⟩
   have M13 := hide1 (M12.out.kept hk)
   have K13 := hide1 (K12.out.trans hk)
   clear hk M12 K12
   go_wp2_with fail
   refine (m_Load _ _ _ _ _ w13 M13.out).mono ?_
   rintro o w14 ⟨⟨e13, rfl⟩, hm, hk⟩
   have M14 := hide1 hm
   have K14 := hide1 (kept_new K13.out hk (by omega) (by omega))
   clear hm hk M13 K13
   go_wp2_with fail
   go_ret
   exact ⟨.inr ⟨_, _, by omega, by omega, rfl, M14.out⟩, K14.out⟩
 . exact zq367
theorem and_any (a : Int) (c : Nat) (hc : c < 9223372036854775808) : bits .and .i64 a (c : Int) = (((a % 18446744073709551616).toNat &&& c : Nat) : Int) := by
 have hx : bits .and .i64 a (c : Int) = IntKind.i64.wrap (((BitVec.ofInt 64 a &&& BitVec.ofInt 64 (c : Int)).toNat : Nat) : Int) := rfl
 have h1 : (BitVec.ofInt 64 a).toNat = (a % 18446744073709551616).toNat := by simp [BitVec.toNat_ofInt]
 rw [hx, BitVec.toNat_and, h1, bv_nat c hc]
 exact wrap_nat63 _ (Nat.lt_of_le_of_lt Nat.and_le_right hc)
theorem va_any (a : Int) : ∃ n : Nat, n <= 4294967292 /\ n % 4 = 0 /\ bits .and .i64 a 4294967292 = (n : Int) := by
 refine ⟨(a % 18446744073709551616).toNat &&& 4294967292, Nat.and_le_right, ?_, and_any a 4294967292 (by decide)⟩
 have h := bit_andN (a % 18446744073709551616).toNat 4294967292 0
 have h2 := bit_andN (a % 18446744073709551616).toNat 4294967292 1
 simp at h h2
 omega
theorem v_any (a : Int) : ∃ n : Nat, n <= 4294967295 /\ bits .and .i64 a 4294967295 = (n : Int) :=
 ⟨(a % 18446744073709551616).toNat &&& 4294967295, Nat.and_le_right, and_any a 4294967295 (by decide)⟩
theorem va_big (n : Nat) (h : n <= 4294967292) (h4 : n % 4 = 0) : ∃ m : Nat, m <= 4294967292 /\ m % 4 = 0 /\ bits .or .i64 (bits .or .i64 (bits .andNot .i64 (n : Int) 4194303) 12288) (bits .and .i64 (n : Int) 4095) = (m : Int) := by
 have e1 : bits .andNot .i64 (n : Int) 4194303 = ((wout n 4194303 : Nat) : Int) := b_andn n 4194303 (by omega) (by decide)
 have hw := wout_le n 4194303
 have e2 : bits .or .i64 ((wout n 4194303 : Nat) : Int) 12288 = ((wout n 4194303 ||| 12288 : Nat) : Int) := b_or _ 12288 (by omega) (by decide)
 have e3 : bits .and .i64 (n : Int) 4095 = ((n &&& 4095 : Nat) : Int) := b_and n 4095 (by omega) (by decide)
 have l2 : wout n 4194303 ||| 12288 < 4294967296 := nat_or_lt _ _ 32 (by omega) (by decide)
 have l3 : n &&& 4095 <= 4095 := Nat.and_le_right
 have e4 := b_or (wout n 4194303 ||| 12288) (n &&& 4095) (by omega) (by omega)
 have l4 : (wout n 4194303 ||| 12288) ||| (n &&& 4095) < 4294967296 := nat_or_lt _ _ 32 l2 (by omega)
 have m4 : ((wout n 4194303 ||| 12288) ||| (n &&& 4095)) % 4 = 0 := by
  have b0 := bit_orN (wout n 4194303 ||| 12288) (n &&& 4095) 0
  have b1 := bit_orN (wout n 4194303 ||| 12288) (n &&& 4095) 1
  have c0 := bit_andN n 4095 0
  have c1 := bit_andN n 4095 1
  have d0 := bit_orN (wout n 4194303) 12288 0
  have d1 := bit_orN (wout n 4194303) 12288 1
  have f0 := bit_woutN n 4194303 0
  have f1 := bit_woutN n 4194303 1
  simp at b0 b1 c0 c1 d0 d1 f0 f1
  have g0 : n % 2 = 0 := by omega
  have g1 : n / 2 % 2 = 0 := by omega
  rw [g1] at c1
  simp [g0, d0, f0] at b0
  simp [c1, d1, f1] at b1
  omega
 exact ⟨_, by omega, m4, by rw [e1, e2, e3, e4]⟩
end
end Go.Proofs.YtmlgonbhoknoiabGreatDoor
