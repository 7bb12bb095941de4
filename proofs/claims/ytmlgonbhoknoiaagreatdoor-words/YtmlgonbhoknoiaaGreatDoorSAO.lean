import Derived.Test.YtmlgonbhoknoiaaGreatDoorSAN
set_option maxHeartbeats 8000000
set_option linter.all false
namespace Go.Proofs.YtmlgonbhoknoiaaGreatDoor
open Go.RowKit Go.Proofs.Tryz
def hartL (X : XS) : List Value := ((xL 0 X).drop 1).take 37
def tmrL (B : BusS) : List Value := [.int .i64 B.msip, .int .i64 B.time, .int .i64 B.timeh, .int .i64 B.cmp, .int .i64 B.cmph]
def prtL (B : BusS) : List Value := [.int .i64 B.enable, .int .i64 B.scratch, .bool B.lost, .string B.rx, .string B.tx]
theorem tk {P : Program} {ops : Array Oper} {Q : Exit -> Act -> World -> Prop} {md : Region.Mode} {S : World -> Prop} {fuel : Nat} {listed : Array Bool} {a b : Act} {w : World} (i d : Nat) (v : Value) (hS : S w) (h : wpAnyH P md ops Q S fuel (listed.setIfInBounds i true) b w) {o : Oper} (hi : ops[i]? = some o := by rfl) (hd : o.dst = some d := by rfl) (hs : Region.noSelect ops = true := by kernel_rfl) (hf : Region.free md ops listed i = true := by kernel_rfl) (hr : (Region.ready md ops listed).contains i = true := by kernel_rfl) (hQ : ∀ c a w, Q (.panic c) (a.put (some d) v) w -> Q (.panic c) a w := by exact fun _ _ _ h => h) (hy : YieldsIf P ops S o v a := by exact Or.inl ⟨by kernel_rfl, fun w hSw => by go_simp⟩) (hb : a.put (some d) v = b := by simp only [Act.put, List.setIfInBounds_toArray, List.set_cons_zero, List.set_cons_succ]; rfl) : wpAnyH P md ops Q S (fuel + 1) listed a w :=
 wpAnyH_take hi hs hf hr (by rw [hd]; exact hQ) hy hS (by rw [hd, hb]; exact h)
theorem hartL_ok (X : XS) : HartL X (hartL X) := by
 refine ⟨fun k hk => ?_, rfl, rfl, rfl, rfl, rfl, rfl⟩
 rcases k with _ | _ | _ | _ | _ | _ | _ | _ | _ | _ | _ | _ | _ | _ | _ | _ | _ | _ | _ | _ | _ | _ | _ | _ | _ | _ | _ | _ | _ | _ | _ | _ | k
 all_goals first | rfl | omega
theorem XAt.sub {w mb rb X} (h : XAt w mb rb X) (o : Nat) (cs : List Value) (e : ∀ j, j < cs.length -> (xL rb X)[o + j]? = cs[j]?) (hl : o + cs.length <= 71) : w.rangeAt mb o cs := fun j v hv => by
 have hj := (List.getElem?_eq_some_iff.1 hv).1
 rw [h.cell (o + j) (by omega), e j hj, hv]
theorem XAt.hartR {w mb rb X} (h : XAt w mb rb X) : w.rangeAt mb 1 (hartL X) := h.sub 1 _ (fun j hj => by
 have hj : j < 37 := hj
 show _ = (((xL 0 X).drop 1).take 37)[j]?
 rw [List.getElem?_take_of_lt hj, List.getElem?_drop, Nat.add_comm]
 rfl) (by show 1 + 37 <= 71; decide)
theorem XAt.tmrR {w mb rb X} (h : XAt w mb rb X) : w.rangeAt mb 61 (tmrL X.b) := h.sub 61 _ (fun j hj => by
 have hj : j < 5 := hj
 rcases j with _ | _ | _ | _ | _ | j
 all_goals first | rfl | omega) (by show _ + 5 <= 71; decide)
theorem XAt.prtR {w mb rb X} (h : XAt w mb rb X) : w.rangeAt mb 66 (prtL X.b) := h.sub 66 _ (fun j hj => by
 have hj : j < 5 := hj
 rcases j with _ | _ | _ | _ | _ | j
 all_goals first | rfl | omega) (by show _ + 5 <= 71; decide)
def showX (X : XS) : ByteArray := ((hartS X ++ csrS X) ++ timerS X.b) ++ portS X.b
theorem hartS_size (X : XS) : (hartS X).size = 140 := by
 have h1 : (if X.waits = true then (⟨#[119]⟩ : ByteArray) else ⟨#[45]⟩).size = 1 := by cases X.waits <;> rfl
 have h2 : (if X.resd = true then (⟨#[114]⟩ : ByteArray) else ⟨#[45]⟩).size = 1 := by cases X.resd <;> rfl
 unfold hartS
 simp only [ByteArray.size_append, leA_size, regG_size, h1, h2]
theorem csrS_size (X : XS) : (csrS X).size = 92 := by
 unfold csrS
 simp only [ByteArray.size_append, leA_size, wideS_size]
theorem timerS_size (B : BusS) : (timerS B).size = 17 := by
 unfold timerS
 simp only [ByteArray.size_append, leA_size, wideS_size]
theorem portS_size (B : BusS) : (portS B).size = 5 + B.rx.size + B.tx.size := by
 have h1 : (if B.lost = true then (⟨#[33]⟩ : ByteArray) else ⟨#[46]⟩).size = 1 := by cases B.lost <;> rfl
 unfold portS
 simp only [ByteArray.size_append, leA_size, h1]; omega
theorem x_Show (mb rb X) (hX : XOk X) (w) (hw : Hid (XAt w mb rb X)) :
 CK 69 #[.pointer (some ⟨mb, 0, none⟩)] (.string (showX X)) w := by
 have HS := fun W => hide1 (x_hartShow' X (hartL X) (hide1 (hartL_ok X)) W)
 have CS := fun W => hide1 (x_csrShow X W)
 have TS := fun W => hide1 (x_timerShow X.b W)
 have PS := fun W => hide1 (x_portShow X.b hX.b.rx hX.b.tx W)
 have z1 := hartS_size X
 have z2 := csrS_size X
 have z3 := timerS_size X.b
 have z4 := portS_size X.b
 have r4 := hX.b.rx
 have r8 := hX.b.tx
 have LD : Hid (∀ W, XAt W mb rb X -> W.rangeAt mb 1 (hartL X) /\ W.rangeAt mb 38 (csL X) /\ W.rangeAt mb 61 (tmrL X.b) /\ W.rangeAt mb 66 (prtL X.b)) := fun W h => ⟨h.hartR, csL_at h, h.tmrR, h.prtR⟩
 have n1 : (hartL X).length = 37 := rfl
 have n2 : (csL X).length = 23 := rfl
 have n3 : (tmrL X.b).length = 5 := rfl
 have n4 : (prtL X.b).length = 5 := rfl
 have hT : Value.agg #[.int .i64 X.b.msip, .int .i64 X.b.time, .int .i64 X.b.timeh, .int .i64 X.b.cmp, .int .i64 X.b.cmph] = .agg (tmrL X.b).toArray := rfl
 have hP : prtA X.b = .agg (prtL X.b).toArray := rfl
 rw [hT] at TS
 rw [hP] at PS
 clear hT hP
 unfold showX
 obtain ⟨A1, hA1⟩ := zn1 (hartL X)
 obtain ⟨A2, hA2⟩ := zn1 (csL X)
 obtain ⟨A3, hA3⟩ := zn1 (tmrL X.b)
 obtain ⟨A4, hA4⟩ := zn1 (prtL X.b)
 obtain ⟨s1, h1⟩ := zn1 (hartS X)
 obtain ⟨s2, h2⟩ := zn1 (csrS X)
 obtain ⟨s3, h3⟩ := zn1 (timerS X.b)
 obtain ⟨s4, h4⟩ := zn1 (portS X.b)
 simp only [<- hA1, <- hA2, <- hA3, <- hA4, <- h1, <- h2, <- h3, <- h4] at HS CS TS PS LD n1 n2 n3 n4 z1 z2 z3 z4 |-
 clear hA1 hA2 hA3 hA4 h1 h2 h3 h4
 obtain ⟨t2, g2, y2, a2⟩ := add_in s1 s2 (by omega)
 obtain ⟨t3, g3, y3, a3⟩ := add_in t2 s3 (by omega)
 obtain ⟨t4, g4, y4, a4⟩ := add_in t3 s4 (by omega)
 rw [<- g2, <- g3, <- g4]
 clear g2 g3 g4 y2 y3 y4 z1 z2 z3 z4 r4 r8 hX
 have hx0 := hide1 hw.out.drew
 have LD0 := LD.out _ hx0.out
 go_enter func69, ntmps69
 go_upto_region 1 with fail
 refine wp_region_held_drew (S := fun w' => w'.rangeAt mb 1 A1 /\ w'.rangeAt mb 38 A2 /\ w'.rangeAt mb 61 A3 /\ w'.rangeAt mb 66 A4) (by kernel_rfl) LD0 (fun hHeld => ?_)
 refine tk 0 3 (.pointer (some ⟨mb, 0, none⟩)) hHeld ?_
 refine tk 1 4 (.pointer (some ⟨mb, 0, none⟩)) hHeld ?_
 refine tk 2 5 (.pointer (some ⟨mb, 1, none⟩)) hHeld ?_
 refine wpAnyH_take (i := 3) (oi := ⟨some 6, .load 67 (.tmp 5), _, _, _, _⟩) (v := .agg A1.toArray) rfl (by kernel_rfl) (by kernel_rfl) (by kernel_rfl) (fun _ _ _ h => h) (yieldsIf_load_mid (by kernel_rfl) 67 (.tmp 5) rfl mb 1 (by kernel_rfl) A1 _ (fun w h => h.1) Tryz.underlying67 rfl (by rw [info67, n1])) hHeld ?_
 try simp only [Act.put, List.setIfInBounds_toArray, List.set_cons_zero, List.set_cons_succ]
 refine tk 5 8 (.pointer (some ⟨mb, 0, none⟩)) hHeld ?_
 refine tk 6 9 (.pointer (some ⟨mb, 0, none⟩)) hHeld ?_
 refine tk 7 10 (.pointer (some ⟨mb, 38, none⟩)) hHeld ?_
 refine wpAnyH_take (i := 8) (oi := ⟨some 11, .load 71 (.tmp 10), _, _, _, _⟩) (v := .agg A2.toArray) rfl (by kernel_rfl) (by kernel_rfl) (by kernel_rfl) (fun _ _ _ h => h) (yieldsIf_load_mid (by kernel_rfl) 71 (.tmp 10) rfl mb 38 (by kernel_rfl) A2 _ (fun w h => h.2.1) Tryz.underlying71 rfl (by rw [info71, n2])) hHeld ?_
 try simp only [Act.put, List.setIfInBounds_toArray, List.set_cons_zero, List.set_cons_succ]
 refine tk 11 14 (.pointer (some ⟨mb, 0, none⟩)) hHeld ?_
 refine tk 12 15 (.pointer (some ⟨mb, 0, none⟩)) hHeld ?_
 refine tk 13 16 (.pointer (some ⟨mb, 61, none⟩)) hHeld ?_
 refine wpAnyH_take (i := 14) (oi := ⟨some 17, .load 73 (.tmp 16), _, _, _, _⟩) (v := .agg A3.toArray) rfl (by kernel_rfl) (by kernel_rfl) (by kernel_rfl) (fun _ _ _ h => h) (yieldsIf_load_mid (by kernel_rfl) 73 (.tmp 16) rfl mb 61 (by kernel_rfl) A3 _ (fun w h => h.2.2.1) Tryz.underlying73 rfl (by rw [info73, n3])) hHeld ?_
 try simp only [Act.put, List.setIfInBounds_toArray, List.set_cons_zero, List.set_cons_succ]
 refine tk 17 20 (.pointer (some ⟨mb, 0, none⟩)) hHeld ?_
 refine tk 18 21 (.pointer (some ⟨mb, 0, none⟩)) hHeld ?_
 refine tk 19 22 (.pointer (some ⟨mb, 66, none⟩)) hHeld ?_
 refine wpAnyH_take (i := 20) (oi := ⟨some 23, .load 75 (.tmp 22), _, _, _, _⟩) (v := .agg A4.toArray) rfl (by kernel_rfl) (by kernel_rfl) (by kernel_rfl) (fun _ _ _ h => h) (yieldsIf_load_mid (by kernel_rfl) 75 (.tmp 22) rfl mb 66 (by kernel_rfl) A4 _ (fun w h => h.2.2.2) Tryz.underlying75 rfl (by rw [info75, n4])) hHeld ?_
 try simp only [Act.put, List.setIfInBounds_toArray, List.set_cons_zero, List.set_cons_succ]
 refine wpAnyH_ready (rs := [4]) (by kernel_rfl) (by simp) ?_
 refine AllReadyH.cons rfl (fun K hK => ?_) AllReadyH.nil
 go_simp
 refine (HS _).out.mono ?_
 rintro e w1 ⟨rfl, hk1⟩
 have hx1 := hide1 (hx0.out.kept hk1)
 refine hK.out _ _ (LD.out _ hx1.out) (fun hHeld => ?_)
 clear hK K
 try simp only [Act.put, List.setIfInBounds_toArray, List.set_cons_zero, List.set_cons_succ]
 refine wpAnyH_ready (rs := [9]) (by kernel_rfl) (by simp) ?_
 refine AllReadyH.cons rfl (fun K hK => ?_) AllReadyH.nil
 go_simp
 refine (CS _).out.mono ?_
 rintro e w2 ⟨rfl, hk2⟩
 have hx2 := hide1 (hx1.out.kept hk2)
 refine hK.out _ _ (LD.out _ hx2.out) (fun hHeld => ?_)
 clear hK K
 try simp only [Act.put, List.setIfInBounds_toArray, List.set_cons_zero, List.set_cons_succ]
 refine tk 10 13 (.string t2) hHeld ?_
 refine wpAnyH_ready (rs := [15]) (by kernel_rfl) (by simp) ?_
 refine AllReadyH.cons rfl (fun K hK => ?_) AllReadyH.nil
 go_simp
 refine (TS _).out.mono ?_
 rintro e w3 ⟨rfl, hk3⟩
 have hx3 := hide1 (hx2.out.kept hk3)
 refine hK.out _ _ (LD.out _ hx3.out) (fun hHeld => ?_)
 clear hK K
 try simp only [Act.put, List.setIfInBounds_toArray, List.set_cons_zero, List.set_cons_succ]
 refine tk 16 19 (.string t3) hHeld ?_
 refine wpAnyH_ready (rs := [21]) (by kernel_rfl) (by simp) ?_
 refine AllReadyH.cons rfl (fun K hK => ?_) AllReadyH.nil
 go_simp
 refine (PS _).out.mono ?_
 rintro e w4 ⟨rfl, hk4⟩
 have hx4 := hide1 (hx3.out.kept hk4)
 refine hK.out _ _ (LD.out _ hx4.out) (fun hHeld => ?_)
 clear hK K
 try simp only [Act.put, List.setIfInBounds_toArray, List.set_cons_zero, List.set_cons_succ]
 refine tk 22 25 (.string t4) hHeld ?_
 refine tk 23 2 (.string t4) hHeld ?_
 refine wpAnyH_done (by kernel_rfl) ?_ _
 all_goals
  go_wp2_with fail
  go_ret
  exact ⟨rfl, ((((Kept.refl _ _).drew.trans hk1).trans hk2).trans hk3).trans hk4⟩
theorem Below.k {w w' : World} (h : Below w.heap.size w w') : Kept [] w w' := Below.kept h []
section
attribute [local go_sem ↓] Go.wp_at_zero Go.wp_at_succ
def arrG : List UInt8 -> BusS -> BusS
 | [], B => B
 | c :: t, B => arrG t (arrB B (c.toNat : Int))
theorem arr_same (B : BusS) (b : Int) : SameBut5 B (arrB B b) := by
 unfold arrB
 split <;> exact ⟨rfl, rfl, rfl, rfl, rfl, rfl⟩
theorem arr_rx (B : BusS) (b : Int) (h : B.rx.size <= 4) : B.rx.size <= (arrB B b).rx.size /\ (arrB B b).rx.size <= 4 := by
 unfold arrB
 split
 . dsimp only
   rw [ByteArray.size_append, strNumsR_size, leLR_length]; omega
 . exact ⟨Nat.le_refl _, h⟩
theorem arrG_rx : ∀ (l : List UInt8) (B : BusS), B.rx.size <= 4 -> B.rx.size <= (arrG l B).rx.size /\ (arrG l B).rx.size <= 4
 | [], B, h => ⟨Nat.le_refl _, h⟩
 | c :: t, B, h => by
  have h1 := arr_rx B (c.toNat : Int) h
  have h2 := arrG_rx t _ h1.2
  exact ⟨Nat.le_trans h1.1 h2.1, h2.2⟩
theorem arrB_ok {B : BusS} (h : BusOk B) (b : Int) : BusOk (arrB B b) := by
 have h1 := arr_rx B b h.rx
 have h2 := arr_same B b
 have e1 : (arrB B b).enable = B.enable := by unfold arrB; split <;> rfl
 have e2 : (arrB B b).scratch = B.scratch := by unfold arrB; split <;> rfl
 have e3 : (arrB B b).tx = B.tx := by unfold arrB; split <;> rfl
 exact ⟨by rw [h2.ram]; exact h.ram, by rw [h2.msip]; exact h.msip, by rw [h2.time]; exact h.time, by rw [h2.timeh]; exact h.timeh, by rw [h2.cmp]; exact h.cmp, by rw [h2.cmph]; exact h.cmph, by rw [e1]; exact h.enable, by rw [e2]; exact h.scratch, h1.2, by rw [e3]; exact h.tx⟩
theorem arrG_ok : ∀ (l : List UInt8) {B : BusS}, BusOk B -> BusOk (arrG l B)
 | [], _, h => h
 | _ :: t, _, h => arrG_ok t (arrB_ok h _)
theorem x_Feed_no (mb : Nat) (s : ByteArray) (h : 64 < s.size) (w : World) :
 CS 75 #[.pointer (some ⟨mb, 0, none⟩), .string s] (.tuple #[.int .i64 0, .int .i64 1]) w := by
 have q : decide (64 < (s.size : Int)) = true := by simp; omega
 go_enter func75, ntmps75
 exact zq337
set_option maxRecDepth 100000 in
theorem x_Feed (mb rb : Nat) (X : XS) (hr : X.b.rx.size <= 4) (s : ByteArray) (h : s.size <= 64) (w) (hw : Hid (XAt w mb rb X)) :
 CX 75 #[.pointer (some ⟨mb, 0, none⟩), .string s] (.tuple #[.int .i64 (((arrG s.data.toList X.b).rx.size : Int) - X.b.rx.size), .int .i64 0]) [mb] mb rb (X.withB (arrG s.data.toList X.b)) w := by
 have q : decide (64 < (s.size : Int)) = false := by simp; omega
 have c69 := hw.out.c69
 have hT4 := (arrG_rx s.data.toList X.b hr).2
 obtain ⟨T, hT⟩ := zn1 (arrG s.data.toList X.b)
 rw [<- hT] at hT4 |-
 have HT : Hid (T = arrG (s.data.toList.drop 0) X.b) := hide1 hT
 clear hT
 obtain ⟨z, hz⟩ := zn1 (X.b.rx.size)
 rw [<- hz] at hr |-
 have hzs : (X.b.rx.size : Int) = z := by rw [hz]
 have HZ := hide1 hz
 clear hz
 go_enter func75, ntmps75
 go_wp2_with fail
 go_loopw [7] (fun d wr => ∃ (i : Nat) (C : BusS), i <= s.size /\ d = .int .i64 i /\ C.rx.size <= 4 /\ Hid (XAt wr mb rb (X.withB C)) /\ Hid (Kept [mb] w wr) /\ Hid (T = arrG (s.data.toList.drop i) C)) (fun d _ => s.size - (intOf d).toNat)
 case atStart => exact ⟨0, X.b, by omega, rfl, by rw [<- HZ.out]; exact hr, hw, hide1 (Kept.refl _ _), HT⟩
 case round =>
  obtain ⟨i, C, hi, rfl, hC, hb, hk, hg⟩ := hrel
  clear HT c69 hw hzs
  have e69 := hb.out.c69
  simp only [XS.withB] at e69
  by_cases hli : i < s.size
  . have q4 : decide ((i : Int) < (s.size : Int)) = true := by simp; omega
    have hg2 : Hid (T = arrG (s.data.toList.drop (i + 1)) (arrB C (s[i].toNat : Int))) := by
     show T = _
     rw [hg.out, dropb s i hli]; rfl
    clear hg
    have hs5 := hide1 (arr_same C (s[i].toNat : Int))
    have hr4 := (arr_rx C (s[i].toNat : Int) hC).2
    have AR := fun W => hide1 (x_arrived C hC (s[i].toNat : Int) W)
    have d66 := hb.out.c66
    have d67 := hb.out.c67
    have d68 := hb.out.c68
    have hfr := hb.out.fro
    have hml := hb.out.lt
    have d70 := hb.out.c70
    simp only [XS.withB] at d66 d67 d68 d70
    obtain ⟨D, hD⟩ := zn1 (arrB C (s[i].toNat : Int))
    simp only [<- hD] at AR hs5 hr4 hg2
    unfold prtA at AR
    clear hD
    have hb8 : s[i].toNat < 256 := s[i].toNat_lt
    have hwb := wrap_in (s[i].toNat : Int) (by omega)
    go_upto_region 7 with fail
    go_region_with (first | (go_at_call 126; refine (AR _).out.mono ?_; rintro o w1 ⟨rfl, hk1⟩; have hx1 : XAt w1 mb rb (X.withB C) := XAt.kept zq526 hk1; have f66 := hx1.c66; have f67 := hx1.c67; have f68 := hx1.c68; have f69 := hx1.c69; have f70 := hx1.c70; have hfr1 := hx1.fro))
    all_goals
     have hx1 : XAt w1 mb rb (X.withB C) := XAt.kept zq526 hk1
     have hx2 := hide1 (hx1.setPort D hs5.out)
     have hk2 : Kept [mb] w w1 := (hk.out.trans (Kept.mono (Kept.trans (by first | exact (Kept.refl [] _).drew | exact Kept.refl [] _) hk1) (by simp)))
     go_wp2_with fail
     go_roundw
     case rel =>
      refine ⟨i + 1, D, by omega, by go_num, hr4, hx2, ?_, hg2⟩
      exact hide1 (((((hk2.setM _ _).setM _ _).setM _ _).setM _ _).setM _ _)
     case measure => exact zq188
  . have q4 : decide ((i : Int) < (s.size : Int)) = false := by simp; omega
    have hTT : T = C := by
     rw [hg.out, List.drop_eq_nil_of_le (by rw [Array.length_toList]; show s.size <= i; omega)]; rfl
    clear hg
    subst hTT
    go_wp2_with fail
    go_ret2
    exact zq338
end
theorem getD_rep (n i : Nat) : (List.replicate n (0 : Nat)).getD i 0 = 0 := by
 rw [List.getD_eq_getElem?_getD, List.getElem?_replicate]; split <;> rfl
theorem busRe_ok (B : BusS) (h : B.ram.length <= 65536) : BusOk (busRe B) := ⟨h, by show 0 < 2; decide, by show 0 < 4294967296; decide, by show 0 < 4294967296; decide, by show 4294967295 < 4294967296; decide, by show 4294967295 < 4294967296; decide, by show 0 < 8; decide, by show 0 < 256; decide, by show 0 <= 4; decide, by show 0 <= 8; decide⟩
theorem rst_inv (X : XS) (h : X.b.ram.length <= 65536) : XInv (rstX X) := by
 refine ⟨⟨busRe_ok X.b h, rfl, ?_, by show 2147483648 < 4294967296; decide, .inr (.inr rfl), ?_, ?_, ?_, ?_, ?_, ?_, ?_, ?_, ?_, ?_, ?_, ?_, ?_, ?_, ?_, ?_, ?_, ?_, ?_, ?_, ?_, ?_, ?_, ?_, ?_⟩, ?_, ?_, ?_, ?_, ?_, ?_, ?_⟩
 . intro i
   show (List.replicate 32 0).getD i 0 < _
   rw [getD_rep]; decide
 all_goals first
  | (show 0 < 4294967296; decide) | (show 0 <= 546; decide) | (show 0 < 8; decide) | (show 0 < 17184063488; decide) | (show 0 / 2048 % 4 ≠ 2; decide) | exact getD_rep 32 0 | (show 0 &&& 546 = 0; decide) | (show 0 &&& 8264106 = 0; decide) | (show 0 &&& 2730 = 0; decide) | (show 0 &&& 46079 = 0; decide) | (show 0 &&& 5 = 0; decide)
theorem new_inv (n : Nat) (h : n <= 65536) : XInv (newX n) := rst_inv _ (by simpa [mac00, bus00] using h)
theorem load_inv {X : XS} (h : XInv X) (off : Nat) (s : ByteArray) : XInv (loadX X off s) := by
 unfold loadX urwX
 have h1 : XInv (setRam X (laidB X.b.ram off s.data.toList)) := h.ram (laidB_length _ _ _)
 split
 . exact h1.unres
 . exact h1
theorem feed_inv {X : XS} (h : XInv X) (l : List UInt8) : XInv (X.withB (arrG l X.b)) := h.withB (arrG_ok l h.ok.b)
theorem tick_inv {X : XS} (h : XInv X) (n : Nat) : XInv { X with b := tickD X.b n } := h.withB (B := tickD X.b n) ⟨h.ok.b.ram, h.ok.b.msip, Nat.mod_lt _ (by decide), Nat.mod_lt _ (by decide), h.ok.b.cmp, h.ok.b.cmph, h.ok.b.enable, h.ok.b.scratch, h.ok.b.rx, h.ok.b.tx⟩
theorem drain_inv {X : XS} (h : XInv X) : XInv { X with b := { X.b with tx := ⟨#[]⟩ } } := h.withB (B := { X.b with tx := ⟨#[]⟩ }) ⟨h.ok.b.ram, h.ok.b.msip, h.ok.b.time, h.ok.b.timeh, h.ok.b.cmp, h.ok.b.cmph, h.ok.b.enable, h.ok.b.scratch, h.ok.b.rx, by show 0 <= 8; decide⟩
theorem byte1 (s : ByteArray) (k : Nat) (h : k < s.size) : s.extract k (k + 1) = strOfNums (leL (s.data[k].toNat : Int) 1) := by
 have e : (s.extract k (k + 1)).data = (strOfNums (leL (s.data[k].toNat : Int) 1)).data := by
  have hs : k < s.data.size := h
  apply Array.ext'
  rw [strOfNums_data]
  simp only [leL, List.nil_append, List.map_cons, List.map_nil]
  have e1 : ∀ b : UInt8, UInt8.ofNat ((b.toNat : Int) / 256 ^ 0 % 256).toNat = b := fun b => by
   have := UInt8.toNat_lt b
   have e0 : ((b.toNat : Int) / 256 ^ 0 % 256 : Int).toNat = b.toNat := by omega
   rw [e0]
   simp
  rw [e1]
  simp only [ByteArray.data_extract, Array.toList_extract]
  rw [List.extract_eq_take_drop, show k + 1 - k = 1 by omega, List.drop_eq_getElem_cons (by simpa using hs)]
  simp
 cases hx : s.extract k (k + 1)
 cases hy : strOfNums (leL (s.data[k].toNat : Int) 1)
 rw [hx, hy] at e
 simp only at e
 rw [e]
theorem feed_eq (s : ByteArray) : ∀ (f k n : Nat) (B : BusS), B.rx.size <= 4 -> k + f = s.size -> feedG s f k n B = (n + ((arrG (s.data.toList.drop k) B).rx.size - B.rx.size), arrG (s.data.toList.drop k) B)
 | 0, k, n, B, hB, h => by
  have hl : s.data.toList.drop k = [] := List.drop_eq_nil_of_le (by simp; exact Nat.le_of_eq h.symm)
  rw [hl]
  simp [feedG, arrG]
 | f + 1, k, n, B, hB, h => by
  have hk : k < s.data.toList.length := by simp; have : s.data.size = s.size := rfl; omega
  have hks : k < s.size := by omega
  rw [List.drop_eq_getElem_cons hk]
  have e1 : s.data.toList[k] = s.data[k] := by simp
  have ar := arr_rx B (s.data[k].toNat : Int) hB
  have b1 := byte1 s k hks
  simp only [feedG, arrG]
  rw [e1]
  by_cases hr : B.rx.size < 4
  . have ea : arrB B (s.data[k].toNat : Int) = { B with rx := B.rx ++ s.extract k (k + 1) } := by
     unfold arrB; rw [if_pos hr, <- b1]
    have hz : (B.rx ++ s.extract k (k + 1)).size = B.rx.size + 1 := by rw [ByteArray.size_append, b1, strOfNums_size]; rfl
    rw [if_pos hr, feed_eq s f (k + 1) (n + 1) _ (by rw [hz]; omega) (by omega), ea]
    have ag := arrG_rx (s.data.toList.drop (k + 1)) { B with rx := B.rx ++ s.extract k (k + 1) } (by rw [hz]; omega)
    rw [hz] at ag |-
    refine Prod.ext ?_ rfl
    dsimp only
    omega
  . have ea : arrB B (s.data[k].toNat : Int) = { B with lost := true } := by unfold arrB; rw [if_neg hr]
    rw [if_neg hr, feed_eq s f (k + 1) n { B with lost := true } hB (by omega), ea]
theorem feed_rel (s : ByteArray) (B : BusS) (hB : B.rx.size <= 4) : ((feedG s s.size 0 0 B).1 : Int) = ((arrG s.data.toList B).rx.size : Int) - B.rx.size /\ (feedG s s.size 0 0 B).2 = arrG s.data.toList B := by
 rw [feed_eq s s.size 0 0 B hB (by omega)]
 have := arrG_rx s.data.toList B hB
 rw [List.drop_zero]
 refine ⟨?_, rfl⟩
 dsimp only
 omega
section
attribute [local go_sem ↓] Go.wp_at_zero Go.wp_at_succ
def loadU (X : XS) (off : Int) (s : ByteArray) : XS := if loadE X.b off s = 0 then loadX X off.toNat s else X
theorem loadE_ok {B : BusS} {off : Int} {s : ByteArray} (h : loadE B off s = 0) : s.size <= 65536 /\ 0 <= off /\ off.toNat + s.size <= B.ram.length := by
 unfold loadE at h
 split at h
 . cases h
 . split at h
   . cases h
   . omega
theorem ux_Load (mb rb : Nat) (X : XS) (hX : XInv X) (off : Int) (s : ByteArray) (w : World) (hw : XAt w mb rb X) :
 CX 24 #[.pointer (some ⟨mb, 0, none⟩), .int .i64 off, .string s] (.int .i64 (loadE X.b off s)) [mb, rb] mb rb (loadU X off s) w := by
 unfold loadU
 by_cases h : loadE X.b off s = 0
 . obtain ⟨h1, h2, h3⟩ := loadE_ok h
   rw [if_pos h, h]
   have := x_Load mb rb X hX.ok off.toNat s h3 w (hide1 hw)
   rw [show ((off.toNat : Nat) : Int) = off by omega] at this
   exact this
 . rw [if_neg h]
   by_cases h1 : 65536 < s.size
   . have e : loadE X.b off s = 1 := by unfold loadE; rw [if_pos h1]
     rw [e]
     exact (x_Load_long mb off s h1 w).mono (fun o w' ⟨a, b⟩ => ⟨a, by rw [b]; exact hw, by rw [b]; exact Kept.refl _ _⟩)
   . have h2 : off < 0 \/ (X.b.ram.length : Int) - s.size < off := by
      unfold loadE at h; rw [if_neg h1] at h
      split at h
      . assumption
      . exact absurd rfl h
     have e : loadE X.b off s = 2 := by unfold loadE; rw [if_neg h1, if_pos h2]
     rw [e]
     exact (x_Load_arg mb rb X hX.ok.b.ram off s (by omega) h2 w (hide1 hw)).mono (fun o w' ⟨a, b⟩ => ⟨a, by rw [b]; exact hw, by rw [b]; exact Kept.refl _ _⟩)
def runU (X : XS) (n : Int) : (Int × Int) × XS := if 0 <= n /\ n <= 4096 then ((((runG n.toNat 0 X).1 : Int), 0), (runG n.toNat 0 X).2) else ((0, 2), X)
theorem ux_Run (mb rb : Nat) (X : XS) (hX : XInv X) (n : Int) (w : World) (hw : XAt w mb rb X) :
 CX 68 #[.pointer (some ⟨mb, 0, none⟩), .int .i64 n] (.tuple #[.int .i64 (runU X n).1.1, .int .i64 (runU X n).1.2]) [mb, rb] mb rb ((runU X n).2) w := by
 unfold runU
 by_cases h : 0 <= n /\ n <= 4096
 . rw [if_pos h]
   have := x_Run mb rb X hX n.toNat (by omega) w (hide1 hw)
   rw [show ((n.toNat : Nat) : Int) = n by omega] at this
   exact this
 . rw [if_neg h]
   exact (x_Run_no mb n (by omega) w).mono (fun o w' ⟨a, b⟩ => ⟨a, by rw [b]; exact hw, by rw [b]; exact Kept.refl _ _⟩)
def tickU (B : BusS) (n : Int) : Int × BusS := if 0 <= n /\ n <= 4294967295 then (0, tickD B n.toNat) else (2, B)
theorem ux_Tick (mb rb : Nat) (X : XS) (hX : XInv X) (n : Int) (w : World) (hw : XAt w mb rb X) :
 CX 74 #[.pointer (some ⟨mb, 0, none⟩), .int .i64 n] (.int .i64 (tickU X.b n).1) [mb, rb] mb rb ({ X with b := (tickU X.b n).2 }) w := by
 unfold tickU
 by_cases h : 0 <= n /\ n <= 4294967295
 . rw [if_pos h]
   have := x_Tick mb rb X hX.ok n.toNat (by omega) w (hide1 hw)
   rw [show ((n.toNat : Nat) : Int) = n by omega] at this
   exact this.mono (fun o w' ⟨a, b, c⟩ => ⟨a, b, c.mono (by simp)⟩)
 . rw [if_neg h]
   exact (x_Tick_no mb n (by omega) w).mono (fun o w' ⟨a, b⟩ => ⟨a, by rw [b]; exact hw, by rw [b]; exact Kept.refl _ _⟩)
def feedU (X : XS) (s : ByteArray) : (Int × Int) × XS := if s.size <= 64 then ((((arrG s.data.toList X.b).rx.size : Int) - X.b.rx.size, 0), X.withB (arrG s.data.toList X.b)) else ((0, 1), X)
theorem ux_Feed (mb rb : Nat) (X : XS) (hX : XInv X) (s : ByteArray) (w : World) (hw : XAt w mb rb X) :
 CX 75 #[.pointer (some ⟨mb, 0, none⟩), .string s] (.tuple #[.int .i64 (feedU X s).1.1, .int .i64 (feedU X s).1.2]) [mb, rb] mb rb ((feedU X s).2) w := by
 unfold feedU
 by_cases h : s.size <= 64
 . rw [if_pos h]
   exact (x_Feed mb rb X hX.ok.b.rx s h w (hide1 hw)).mono (fun o w' ⟨a, b, c⟩ => ⟨a, b, c.mono (by simp)⟩)
 . rw [if_neg h]
   exact (x_Feed_no mb s (by omega) w).mono (fun o w' ⟨a, b⟩ => ⟨a, by rw [b]; exact hw, by rw [b]; exact Kept.refl _ _⟩)
theorem ux_Peek (mb rb : Nat) (X : XS) (hX : XInv X) (off n : Int) (hn : n <= 9223372036854775807) (w : World) (hw : XAt w mb rb X) :
 ∃ (t : ByteArray) (e : Int), (CS 121 #[.pointer (some ⟨mb, 0, none⟩), .int .i64 off, .int .i64 n] (.tuple #[.string t, .int .i64 e]) w) /\ ((n < 0 \/ off < 0 \/ (X.b.ram.length : Int) - n < off) /\ t = ⟨#[]⟩ /\ e = 2 \/ (0 <= n /\ 0 <= off /\ off.toNat + n.toNat <= X.b.ram.length) /\ t = pkB X.b.ram off.toNat n.toNat /\ e = 0) := by
 by_cases h : n < 0 \/ off < 0 \/ (X.b.ram.length : Int) - n < off
 . exact ⟨_, _, x_Peek_no mb rb X hX.ok off n hn h w (hide1 hw), .inl ⟨h, rfl, rfl⟩⟩
 . have := x_Peek mb rb X hX.ok off.toNat n.toNat (by omega) w (hide1 hw)
   rw [show ((n.toNat : Nat) : Int) = n by omega, show ((off.toNat : Nat) : Int) = off by omega] at this
   exact ⟨_, _, this, .inr ⟨by omega, rfl, rfl⟩⟩
def regU (x : List Nat) (i : Int) : Int × Int := if 0 <= i /\ i < 32 then ((x.getD i.toNat 0 : Nat), 0) else (0, 2)
theorem ux_Reg (mb rb : Nat) (X : XS) (i : Int) (w : World) (hw : XAt w mb rb X) :
 CS 26 #[.pointer (some ⟨mb, 0, none⟩), .int .i64 i] (.tuple #[.int .i64 (regU X.x i).1, .int .i64 (regU X.x i).2]) w := by
 unfold regU
 by_cases h : 0 <= i /\ i < 32
 . rw [if_pos h]
   have := x_Reg mb rb X i.toNat (by omega) w (hide1 hw)
   rw [show ((i.toNat : Nat) : Int) = i by omega] at this
   exact this
 . rw [if_neg h]
   exact x_Reg_no mb rb X i (by omega) w (hide1 hw)
def Mx (w : World) (mb rb : Nat) : Prop := ∃ X, XAt w mb rb X /\ XInv X
theorem Mx.lt {w : World} {mb rb : Nat} (h : Mx w mb rb) : mb < w.heap.size /\ rb < w.heap.size := by
 obtain ⟨X, h1, h2⟩ := h
 exact ⟨h1.lt, h1.rlt⟩
theorem Mx.kept {w w' : World} {mb rb : Nat} (h : Mx w mb rb) (hk : Kept [] w w') : Mx w' mb rb := by
 obtain ⟨X, h1, h2⟩ := h
 exact ⟨X, h1.kept hk, h2⟩
theorem Mx.more {w w' : World} {mb rb : Nat} {G : List Nat} (h : Mx w mb rb) (hk : Kept G w w') (h1 : mb ∉ G) (h2 : rb ∉ G) : Mx w' mb rb := by
 obtain ⟨X, a, b⟩ := h
 exact ⟨X, XAt.more a hk h1 h2, b⟩
def IntR (e : Ending) : Prop := ∃ v : Int, 0 <= v /\ v < 4294967296 /\ e = .returned (.int .i64 v)
def BoolR (e : Ending) : Prop := ∃ r, e = .returned (.bool r)
theorem m_Reg (mb rb : Nat) (i : Int) (w : World) (hw : Mx w mb rb) :
 Calls prog 26 #[.pointer (some ⟨mb, 0, none⟩), .int .i64 i] w fun o w' => (∃ v er : Int, 0 <= v /\ v < 4294967296 /\ o = .returned (.tuple #[.int .i64 v, .int .i64 er])) /\ w' = w := by
 obtain ⟨X, h1, h2⟩ := hw
 refine (ux_Reg mb rb X i w h1).mono (fun o w' ⟨a, b⟩ => ⟨⟨_, _, ?_, ?_, a⟩, b⟩)
 all_goals
  have := h2.ok.xr i.toNat
  unfold regU
  split
  . dsimp only; omega
  . dsimp only; omega
theorem m_Csr (mb rb : Nat) (n : Int) (w : World) (hw : Mx w mb rb) :
 Calls prog 170 #[.pointer (some ⟨mb, 0, none⟩), .int .i64 n] w fun o w' => (∃ v er : Int, 0 <= v /\ v < 4294967296 /\ o = .returned (.tuple #[.int .i64 v, .int .i64 er])) /\ Kept [] w w' := by
 obtain ⟨X, h1, h2⟩ := hw
 refine (x_Csr mb rb X h2.ok n w (hide1 h1)).mono (fun o w' ⟨a, b⟩ => ⟨⟨_, _, ?_, ?_, a⟩, b⟩)
 all_goals
  have := rcs_lt X h2.ok n
  unfold xcsrE
  split
  . dsimp only; omega
  . dsimp only; omega
theorem m_Pc (mb rb : Nat) (w : World) (hw : Mx w mb rb) : Calls prog 112 #[.pointer (some ⟨mb, 0, none⟩)] w fun o w' => IntR o /\ w' = w := by
 obtain ⟨X, h1, h2⟩ := hw
 have := h2.ok.pc
 exact (x_Pc mb rb X w (hide1 h1)).mono (fun o w' ⟨a, b⟩ => ⟨⟨_, by omega, by omega, a⟩, b⟩)
theorem m_Mode (mb rb : Nat) (w : World) (hw : Mx w mb rb) : Calls prog 111 #[.pointer (some ⟨mb, 0, none⟩)] w fun o w' => IntR o /\ w' = w := by
 obtain ⟨X, h1, h2⟩ := hw
 have := h2.ok.mode
 exact (x_Mode mb rb X w (hide1 h1)).mono (fun o w' ⟨a, b⟩ => ⟨⟨_, by omega, by omega, a⟩, b⟩)
def Mz (w : World) (mb rb z : Nat) : Prop := ∃ X, XAt w mb rb X /\ XInv X /\ X.b.ram.length = z
theorem Mz.m {w : World} {mb rb z : Nat} (h : Mz w mb rb z) : Mx w mb rb := by
 obtain ⟨X, a, b, c⟩ := h; exact ⟨X, a, b⟩
theorem Mz.le {w : World} {mb rb z : Nat} (h : Mz w mb rb z) : z <= 65536 := by
 obtain ⟨X, a, b, c⟩ := h; rw [<- c]; exact b.ok.b.ram
theorem Mx.z {w : World} {mb rb : Nat} (h : Mx w mb rb) : ∃ z, Mz w mb rb z := by
 obtain ⟨X, a, b⟩ := h; exact ⟨_, X, a, b, rfl⟩
theorem Mz.kept {w w' : World} {mb rb z : Nat} (h : Mz w mb rb z) (hk : Kept [] w w') : Mz w' mb rb z := by
 obtain ⟨X, a, b, c⟩ := h; exact ⟨X, a.kept hk, b, c⟩
theorem Mz.more {w w' : World} {mb rb z : Nat} {G : List Nat} (h : Mz w mb rb z) (hk : Kept G w w') (h1 : mb ∉ G) (h2 : rb ∉ G) : Mz w' mb rb z := by
 obtain ⟨X, a, b, c⟩ := h; exact ⟨X, XAt.more a hk h1 h2, b, c⟩
theorem m_Size (mb rb z : Nat) (w : World) (hw : Mz w mb rb z) : CS 120 #[.pointer (some ⟨mb, 0, none⟩)] (.int .i64 z) w := by
 obtain ⟨X, h1, h2, h3⟩ := hw
 rw [<- h3]
 exact x_Size mb rb X w (hide1 h1)
theorem pkB_size (r : List UInt8) (off n : Nat) (h : off + n <= r.length) : (pkB r off n).size = n := by
 unfold pkB; rw [strOfNums_size]; simp; omega
theorem m_Peek (mb rb z : Nat) (off n : Int) (hn : n <= 9223372036854775807) (w : World) (hw : Mz w mb rb z) :
 Calls prog 121 #[.pointer (some ⟨mb, 0, none⟩), .int .i64 off, .int .i64 n] w fun o w' => (∃ (t : ByteArray) (e : Int), (0 <= n -> 0 <= off -> off + n <= z -> (t.size : Int) = n) /\ t.size <= 65536 /\ o = .returned (.tuple #[.string t, .int .i64 e])) /\ w' = w := by
 obtain ⟨X, h1, h2, h3⟩ := hw
 obtain ⟨t, e, hc, hh⟩ := ux_Peek mb rb X h2 off n hn w h1
 refine hc.mono (fun o w' ⟨a, b⟩ => ⟨⟨t, e, ?_, ?_, a⟩, b⟩)
 . intro q1 q2 q3
   rcases hh with ⟨p, rfl, _⟩ | ⟨p, rfl, _⟩
   . omega
   . rw [pkB_size _ _ _ p.2.2]; omega
 . have := h2.ok.b.ram
   rcases hh with ⟨p, rfl, _⟩ | ⟨p, rfl, _⟩
   . show (0 : Nat) <= _; omega
   . rw [pkB_size _ _ _ p.2.2]; omega
theorem m_Show (mb rb : Nat) (w : World) (hw : Mx w mb rb) : Calls prog 69 #[.pointer (some ⟨mb, 0, none⟩)] w fun o w' => (∃ s : ByteArray, 200 <= s.size /\ s.size <= 300 /\ o = .returned (.string s)) /\ Kept [] w w' := by
 obtain ⟨X, h1, h2⟩ := hw
 refine (x_Show mb rb X h2.ok w (hide1 h1)).mono (fun o w' ⟨a, b⟩ => ⟨⟨_, ?_, ?_, a⟩, b⟩)
 all_goals
  have q1 := h2.ok.b.rx
  have q2 := h2.ok.b.tx
  unfold showX
  rw [ByteArray.size_append, ByteArray.size_append, ByteArray.size_append, hartS_size, csrS_size, timerS_size, portS_size]
  omega
theorem m_Load (mb rb z : Nat) (off : Int) (s : ByteArray) (w : World) (hw : Mz w mb rb z) :
 Calls prog 24 #[.pointer (some ⟨mb, 0, none⟩), .int .i64 off, .string s] w fun o w' => (∃ e : Int, o = .returned (.int .i64 e)) /\ Mz w' mb rb z /\ Kept [mb, rb] w w' := by
 obtain ⟨X, h1, h2, h3⟩ := hw
 refine (ux_Load mb rb X h2 off s w h1).mono (fun o w' ⟨a, b, c⟩ => ⟨⟨_, a⟩, ⟨_, b, ?_, ?_⟩, c⟩)
 . unfold loadU; split
   . exact load_inv h2 _ _
   . exact h2
 . unfold loadU; split
   . unfold loadX urwX setRam unresX
     split <;> (dsimp only; rw [laidB_length, h3])
   . exact h3
theorem m_Flush (mb : Nat) (w : World) : CS 67 #[.pointer (some ⟨mb, 0, none⟩)] (.tuple #[]) w := x_Flush mb w
theorem m_Drain (mb rb z : Nat) (w : World) (hw : Mz w mb rb z) : Calls prog 76 #[.pointer (some ⟨mb, 0, none⟩)] w fun o w' => (∃ s : ByteArray, s.size <= 8 /\ o = .returned (.string s)) /\ Mz w' mb rb z /\ Kept [mb, rb] w w' := by
 obtain ⟨X, h1, h2, h3⟩ := hw
 exact (x_Drain mb rb X w (hide1 h1)).mono (fun o w' ⟨a, b, c⟩ => ⟨⟨_, h2.ok.b.tx, a⟩, ⟨_, b, drain_inv h2, h3⟩, c.mono (by simp)⟩)
theorem m_Tick (mb rb z : Nat) (n : Int) (w : World) (hw : Mz w mb rb z) : Calls prog 74 #[.pointer (some ⟨mb, 0, none⟩), .int .i64 n] w fun o w' => (∃ e : Int, o = .returned (.int .i64 e)) /\ Mz w' mb rb z /\ Kept [mb, rb] w w' := by
 obtain ⟨X, h1, h2, h3⟩ := hw
 refine (ux_Tick mb rb X h2 n w h1).mono (fun o w' ⟨a, b, c⟩ => ⟨⟨_, a⟩, ⟨_, b, ?_, ?_⟩, c⟩)
 . unfold tickU; split
   . exact tick_inv h2 _
   . exact h2
 . unfold tickU; split <;> exact h3
theorem arrB_ram (B : BusS) (b : Int) : (arrB B b).ram = B.ram := by unfold arrB; split <;> rfl
theorem arrG_ram : ∀ (l : List UInt8) (B : BusS), (arrG l B).ram = B.ram
 | [], B => rfl
 | c :: t, B => (arrG_ram t _).trans (arrB_ram B _)
theorem m_Feed (mb rb z : Nat) (s : ByteArray) (w : World) (hw : Mz w mb rb z) : Calls prog 75 #[.pointer (some ⟨mb, 0, none⟩), .string s] w fun o w' => (∃ v er : Int, 0 <= v /\ v <= 4 /\ v <= s.size /\ o = .returned (.tuple #[.int .i64 v, .int .i64 er])) /\ Mz w' mb rb z /\ Kept [mb, rb] w w' := by
 obtain ⟨X, h1, h2, h3⟩ := hw
 have hr := arrG_rx s.data.toList X.b h2.ok.b.rx
 have hf := feed_rel s X.b h2.ok.b.rx
 have hc : (feedG s s.size 0 0 X.b).1 <= s.size := by
  have key : ∀ (f i n : Nat) (B : BusS), (feedG s f i n B).1 <= n + f := by
   intro f
   induction f with
   | zero => intro i n B; simp [feedG]
   | succ f ih =>
    intro i n B
    simp only [feedG]
    split
    . have := ih (i + 1) (n + 1) { B with rx := B.rx ++ s.extract i (i + 1) }; omega
    . have := ih (i + 1) n { B with lost := true }; omega
  have := key s.size 0 0 X.b; omega
 refine (ux_Feed mb rb X h2 s w h1).mono (fun o w' ⟨a, b, c⟩ => ⟨⟨_, _, ?_, ?_, ?_, a⟩, ⟨_, b, ?_, ?_⟩, c⟩)
 . exact zq339
 . exact zq339
 . exact zq339
 . unfold feedU; split
   . exact feed_inv h2 _
   . exact h2
 . unfold feedU; split
   . show (arrG s.data.toList X.b).ram.length = z; rw [arrG_ram]; exact h3
   . exact h3
theorem m_Reset (mb rb z : Nat) (w : World) (hw : Mz w mb rb z) : Calls prog 36 #[.pointer (some ⟨mb, 0, none⟩)] w fun o w' => o = .returned (.tuple #[]) /\ Mz w' mb rb z /\ Kept [mb, rb] w w' := by
 obtain ⟨X, h1, h2, h3⟩ := hw
 exact (x_Reset mb rb X w (hide1 h1)).mono (fun o w' ⟨a, b, c⟩ => ⟨a, ⟨_, b, rst_inv X h2.ok.b.ram, h3⟩, c.mono (by simp)⟩)
theorem m_Copy (mb rb z : Nat) (w : World) (hw : Mz w mb rb z) : Calls prog 31 #[.pointer (some ⟨mb, 0, none⟩)] w fun o w' => o = .returned (.pointer (some ⟨w.heap.size, 0, none⟩)) /\ Mz w' w.heap.size (w.heap.size + 1) z /\ Kept [] w w' := by
 obtain ⟨X, h1, h2, h3⟩ := hw
 exact (x_Copy mb rb X h2.ok.b.ram w (hide1 h1)).mono (fun o w' ⟨a, b, c⟩ => ⟨a, ⟨X, b, h2, h3⟩, c⟩)
theorem m_New (n : Nat) (hn : n <= 65536) (w : World) : Calls prog 23 #[.int .i64 n] w fun o w' => o = .returned (.tuple #[.pointer (some ⟨w.heap.size + 1, 0, none⟩), .int .i64 0]) /\ Mz w' (w.heap.size + 1) w.heap.size n /\ Kept [] w w' :=
 (x_New n hn w).mono (fun o w' ⟨a, b, c⟩ => ⟨a, ⟨_, b, new_inv n hn, by simp [newX, rstX, mac00, bus00, busRe]⟩, c⟩)
theorem fetch_len (B : BusS) (C : CsrS) (pc : Nat) : (fetchD B C pc).2.ram.length = B.ram.length := by
 unfold fetchD
 have h1 := half_len B C pc
 have h2 := half_len (halfD B C pc).2 C ((pc + 2) % 4294967296)
 split
 . split
   . split
     . exact h2.trans h1
     . exact h2.trans h1
   . exact h1
 . exact h1
theorem setXR_b (Y : XS) (d u : Nat) : (setXR Y d u).b = Y.b := by unfold setXR; split <;> rfl
theorem cro_len (X : XS) (N : NI) (v : Nat) : (croX X N v).2.b.ram.length = X.b.ram.length := by
 unfold croX
 split
 . rw [setXR_b]
 split
 . rfl
 split
 . unfold ldX
   have h := reach_len X.b (xC X) (vaD X N) (nD N.op) 1
   generalize reachD X.b (xC X) (vaD X N) (nD N.op) 1 = S at h
   unfold ldF; split
   . rw [setXR_b]; exact (load_len _ _).trans h
   . exact h
 split
 . unfold stX
   have h := reach_len X.b (xC X) (vaD X N) (nD N.op) 2
   generalize reachD X.b (xC X) (vaD X N) (nD N.op) 2 = S at h
   unfold stF; split
   . exact (store_len _ _ _).trans h
   . exact h
 split
 . unfold atX
   split
   . have h := wordAt_len X.b (xC X) (X.x.getD N.rs1 0) (kD N.op)
     generalize wordAtD X.b (xC X) (X.x.getD N.rs1 0) (kD N.op) = T at h
     unfold atF
     split
     . unfold atG lrX scX amoX unresX
       dsimp only
       split
       . rw [setXR_b]; exact h
       . split
         . rw [setXR_b]
           cases scB (X.withB T.2) T.1.1
           . exact (stN_length _ _ _ _).trans h
           . exact h
         . rw [setXR_b]; exact (stN_length _ _ _ _).trans h
     . exact h
   . rfl
 split
 . rfl
 split
 . rfl
 split
 . unfold ccrX
   dsimp only
   split
   . rw [wcs_keep, setXR_b]
   . rw [setXR_b]
 split
 . unfold prvX mrtX srtX unresX
   dsimp only
   split
   . rfl
   . split
     . rfl
     . split <;> rfl
 . rfl
theorem ins_len (X : XS) : (insX X).2.b.ram.length = X.b.ram.length := by
 unfold insX
 have h := fetch_len X.b (xC X) X.pc
 generalize fetchD X.b (xC X) X.pc = T at h
 split
 . split
   . unfold insR
     have := cro_len (X.withB T.2) (niOf (decodeD (T.1.w : Int)).1) T.1.w
     split
     . exact this.trans h
     . exact this.trans h
   . exact h
 . exact h
theorem step_len (X : XS) : (stepX X).2.b.ram.length = X.b.ram.length := by
 show (actX X).2.b.ram.length = _
 have ht : ∀ (Y : XS) (a b : Nat), (teX Y a b).b = Y.b := fun Y a b => by unfold teX tsX tmX; split <;> rfl
 have hi : ∀ (Y : XS) (a : Nat), (tiX Y a).b = Y.b := fun Y a => by unfold tiX tsX tmX; split <;> rfl
 have h := ins_len (wakX X)
 unfold actX
 split
 . rfl
 . split
   . unfold actE
     split
     . exact h
     . rw [ht]; exact h
   . rw [hi]; rfl
theorem run_len2 : ∀ (n r : Nat) (X : XS), (runG n r X).2.b.ram.length = X.b.ram.length
 | 0, _, _ => rfl
 | n + 1, r, X => (run_len2 n _ _).trans (step_len X)
theorem run_cnt : ∀ (n r : Nat) (X : XS), (runG n r X).1 <= r + n
 | 0, _, _ => Nat.le_refl _
 | n + 1, r, X => by
  have := run_cnt n (if (stepX X).1.1 = 0 then r + 1 else r) (stepX X).2
  refine Nat.le_trans (show (runG (n + 1) r X).1 <= _ from this) ?_
  split <;> omega
theorem step_in (X : XS) (h : XInv X) : 0 <= (stepX X).1.1 /\ (stepX X).1.1 <= 3 /\ -1 <= (stepX X).1.2 /\ (stepX X).1.2 < 16 := by
 have h1 := (act_inv h).2
 refine ⟨?_, ?_, h1.1, h1.2⟩
 all_goals
  show _
  unfold stepX actX
  dsimp only
  split
  . dsimp only; decide
  . split
    . unfold actE
      split
      . dsimp only; decide
      . dsimp only; decide
    . dsimp only; decide
theorem m_Step (mb rb z : Nat) (w : World) (hw : Mz w mb rb z) : Calls prog 25 #[.pointer (some ⟨mb, 0, none⟩)] w fun o w' => (∃ k c : Int, 0 <= k /\ k <= 3 /\ -1 <= c /\ c < 16 /\ o = .returned (.agg #[.int .i64 k, .int .i64 c])) /\ Mz w' mb rb z /\ Kept [mb, rb] w w' := by
 obtain ⟨X, h1, h2, h3⟩ := hw
 have hs := step_in X h2
 exact (x_Step mb rb X h2 w (hide1 h1)).mono (fun o w' ⟨a, b, c⟩ => ⟨⟨_, _, hs.1, hs.2.1, hs.2.2.1, hs.2.2.2, a⟩, ⟨_, b, step_inv h2, (step_len X).trans h3⟩, c⟩)
theorem m_Run (mb rb z : Nat) (n : Int) (w : World) (hw : Mz w mb rb z) : Calls prog 68 #[.pointer (some ⟨mb, 0, none⟩), .int .i64 n] w fun o w' => (∃ v er : Int, 0 <= v /\ v <= 4096 /\ o = .returned (.tuple #[.int .i64 v, .int .i64 er])) /\ Mz w' mb rb z /\ Kept [mb, rb] w w' := by
 obtain ⟨X, h1, h2, h3⟩ := hw
 have hc := run_cnt n.toNat 0 X
 refine (ux_Run mb rb X h2 n w h1).mono (fun o w' ⟨a, b, c⟩ => ⟨⟨_, _, ?_, ?_, a⟩, ⟨_, b, ?_, ?_⟩, c⟩)
 . unfold runU; split
   . dsimp only; omega
   . dsimp only; decide
 . unfold runU; split
   . dsimp only; omega
   . dsimp only; decide
 . unfold runU; split
   . exact run_inv _ _ X h2
   . exact h2
 . unfold runU; split
   . exact (run_len2 _ _ X).trans h3
   . exact h3
theorem k_reg (mb rb : Nat) (i : Int) (w : World) (hw : Hid (Mx w mb rb)) : Calls prog 101 #[.pointer (some ⟨mb, 0, none⟩), .int .i64 i] w fun o w' => IntR o /\ w' = w := by
 have R := hide1 (m_Reg mb rb i w hw.out)
 go_enter func101, ntmps101
 go_wp2_with fail
 refine R.out.mono ?_
 rintro o w1 ⟨⟨v, er, h0, h1, rfl⟩, rfl⟩
 go_wp2_with fail
 go_ret
 exact ⟨⟨v, h0, h1, rfl⟩, rfl⟩
theorem k_csr (mb rb : Nat) (i : Int) (w : World) (hw : Hid (Mx w mb rb)) : Calls prog 105 #[.pointer (some ⟨mb, 0, none⟩), .int .i64 i] w fun o w' => IntR o /\ Kept [] w w' := by
 have R := hide1 (m_Csr mb rb i w hw.out)
 go_enter func105, ntmps105
 go_wp2_with fail
 refine R.out.mono ?_
 rintro o w1 ⟨⟨v, er, h0, h1, rfl⟩, hk⟩
 have HK := hide1 hk
 clear hk
 go_wp2_with fail
 go_ret
 exact ⟨⟨v, h0, h1, rfl⟩, HK.out⟩
theorem k_ram (mb rb z : Nat) (w : World) (hw : Hid (Mz w mb rb z)) : Calls prog 70 #[.pointer (some ⟨mb, 0, none⟩)] w fun o w' => (∃ s : ByteArray, s.size = z /\ o = .returned (.string s)) /\ w' = w := by
 have S := hide1 (m_Size mb rb z w hw.out)
 have hz := hw.out.le
 have P := hide1 (m_Peek mb rb z 0 z (by omega) w hw.out)
 go_enter func70, ntmps70
 go_wp2_with fail
 refine S.out.mono ?_
 rintro o w1 ⟨rfl, rfl⟩
 go_wp2_with fail
 refine P.out.mono ?_
 rintro o w1 ⟨⟨t, e, h0, h1, rfl⟩, rfl⟩
 have ht : Hid (t.size = z) := hide1 (by have := h0 (by omega) (by omega) (by omega); omega)
 clear h0 h1
 go_wp2_with fail
 go_ret
 exact ⟨⟨t, ht.out, rfl⟩, rfl⟩
theorem k_minus (a : Int) (h0 : 0 <= a) (h1 : a < 4294967296) (w : World) : CS 108 #[.int .i64 a] (.int .i64 (sgn a)) w := by
 unfold sgn
 by_cases h : 2147483648 <= a
 . have q : decide (2147483648 <= a) = true := by simp [h]
   rw [if_pos h]
   have wr : IntKind.i64.wrap (a - 4294967296) = a - 4294967296 := zq114
   exact zq340
 . have q : decide (2147483648 <= a) = false := by simp; omega
   rw [if_neg h]
   exact zq340
theorem k_pickE (c : Int) (h0 : -9223372036854775808 <= c) (h1 : c <= 9223372036854775807) (n : Nat) (hn : 0 < n) (hn1 : n <= 9223372036854775807) : ∃ j : Nat, j < n /\ ∀ w : World,
 CS 30 #[.int .i64 c, .int .i64 n] (.int .i64 j) w := by
 have hz : ((n : Int) == 0) = false := by simp; omega
 by_cases hc : c < 0
 . have q : decide (c < 0) = true := by simp [hc]
   have w1 : IntKind.i64.wrap (c + 1) = c + 1 := zq114
   have w2 : IntKind.i64.wrap (-(c + 1)) = -(c + 1) := zq114
   have hm : (-(c + 1)).tmod (n : Int) = (-(c + 1)) % (n : Int) := Int.tmod_eq_emod_of_nonneg (by omega)
   have hlt := Int.emod_lt_of_pos (-(c + 1)) (show (0 : Int) < n by omega)
   have hge := Int.emod_nonneg (-(c + 1)) (show (n : Int) ≠ 0 by omega)
   have w3 : IntKind.i64.wrap ((-(c + 1)).tmod (n : Int)) = (-(c + 1)).tmod (n : Int) := wrap_in _ (by rw [hm]; omega)
   obtain ⟨j, hj⟩ : ∃ j : Nat, (j : Int) = (-(c + 1)).tmod (n : Int) := ⟨((-(c + 1)).tmod (n : Int)).toNat, by rw [hm]; omega⟩
   exact zq341
 . have q : decide (c < 0) = false := by simp; omega
   have hm : c.tmod (n : Int) = c % (n : Int) := Int.tmod_eq_emod_of_nonneg (by omega)
   have hlt := Int.emod_lt_of_pos c (show (0 : Int) < n by omega)
   have hge := Int.emod_nonneg c (show (n : Int) ≠ 0 by omega)
   have w3 : IntKind.i64.wrap (c.tmod (n : Int)) = c.tmod (n : Int) := wrap_in _ (by rw [hm]; omega)
   obtain ⟨j, hj⟩ : ∃ j : Nat, (j : Int) = c.tmod (n : Int) := ⟨(c.tmod (n : Int)).toNat, by rw [hm]; omega⟩
   exact zq341
theorem k_pick (c : Int) (h0 : -9223372036854775808 <= c) (h1 : c <= 9223372036854775807) (n : Nat) (hn : 0 < n) (hn1 : n <= 9223372036854775807) (w : World) :
 Calls prog 30 #[.int .i64 c, .int .i64 n] w fun e w' => (∃ j : Nat, j < n /\ e = .returned (.int .i64 j)) /\ w' = w := by
 obtain ⟨j, hj, h⟩ := k_pickE c h0 h1 n hn hn1
 exact (h w).mono (fun e w' h => ⟨⟨j, hj, h.1⟩, h.2⟩)
end
section
open Go.Shelf
def Tryz.laysM171_ren : Go.Shelf.Ren := ⟨fun | 171 => 220 | 243 => 305 | 246 => 355 | 283 => 383 | 284 => 384 | 285 => 385 | 286 => 386 | 129 => 407 | 317 => 406 | 318 => 408 | 319 => 409 | 320 => 410 | 337 => 441 | 338 => 442 | n => n, fun | 3 => 3 | 9 => 9 | 2 => 2 | 4 => 4 | 171 => 273 | 0 => 0 | 53 => 274 | 37 => 64 | 5 => 5 | 173 => 277 | 212 => 283 | 51 => 284 | 20 => 20 | 213 => 285 | 46 => 110 | 232 => 296 | 233 => 297 | n => n, fun | 17 => 0 | 18 => 1 | 19 => 2 | n => n⟩
theorem Tryz.laysM171 : Go.Proofs.LaysM.n171 prog Tryz.laysM171_ren := {
 mixed := by kernel_rfl
 f129 := func407.trans (congrArg some (by kernel_rfl))
 f171 := func220.trans (congrArg some (by kernel_rfl))
 f243 := func305.trans (congrArg some (by kernel_rfl))
 f246 := func355.trans (congrArg some (by kernel_rfl))
 f283 := func383.trans (congrArg some (by kernel_rfl))
 f284 := func384.trans (congrArg some (by kernel_rfl))
 f285 := func385.trans (congrArg some (by kernel_rfl))
 f286 := func386.trans (congrArg some (by kernel_rfl))
 f317 := func406.trans (congrArg some (by kernel_rfl))
 f318 := func408.trans (congrArg some (by kernel_rfl))
 f319 := func409.trans (congrArg some (by kernel_rfl))
 f320 := func410.trans (congrArg some (by kernel_rfl))
 f337 := func441.trans (congrArg some (by kernel_rfl))
 f338 := func442.trans (congrArg some (by kernel_rfl))
 t0 := Tryz.underlying0
 a0 := Tryz.isAgg0
 z0 := Tryz.sizeOf0
 v0 := Tryz.zeroValue0
 t2 := Tryz.underlying2
 a2 := Tryz.isAgg2
 z2 := Tryz.sizeOf2
 v2 := Tryz.zeroValue2
 t3 := Tryz.underlying3
 a3 := Tryz.isAgg3
 z3 := Tryz.sizeOf3
 v3 := Tryz.zeroValue3
 t4 := Tryz.underlying4
 a4 := Tryz.isAgg4
 z4 := Tryz.sizeOf4
 v4 := Tryz.zeroValue4
 t5 := Tryz.underlying5
 a5 := Tryz.isAgg5
 z5 := Tryz.sizeOf5
 v5 := Tryz.zeroValue5
 t9 := Tryz.underlying9
 a9 := Tryz.isAgg9
 z9 := Tryz.sizeOf9
 v9 := Tryz.zeroValue9
 t20 := Tryz.underlying20
 a20 := Tryz.isAgg20
 z20 := Tryz.sizeOf20
 v20 := Tryz.zeroValue20
 t37 := Tryz.underlying64
 a37 := Tryz.isAgg64
 z37 := Tryz.sizeOf64
 v37 := Tryz.zeroValue64
 t46 := Tryz.underlying110
 a46 := Tryz.isAgg110
 z46 := Tryz.sizeOf110
 v46 := Tryz.zeroValue110
 t51 := Tryz.underlying284
 a51 := Tryz.isAgg284
 z51 := Tryz.sizeOf284
 v51 := Tryz.zeroValue284
 t53 := Tryz.underlying274
 a53 := Tryz.isAgg274
 z53 := Tryz.sizeOf274
 v53 := Tryz.zeroValue274
 t171 := Tryz.underlying273
 a171 := Tryz.isAgg273
 z171 := Tryz.sizeOf273
 v171 := Tryz.zeroValue273
 t173 := Tryz.underlying277
 a173 := Tryz.isAgg277
 z173 := Tryz.sizeOf277
 v173 := Tryz.zeroValue277
 t212 := Tryz.underlying283
 a212 := Tryz.isAgg283
 z212 := Tryz.sizeOf283
 v212 := Tryz.zeroValue283
 t213 := Tryz.underlying285
 a213 := Tryz.isAgg285
 z213 := Tryz.sizeOf285
 t232 := Tryz.underlying296
 a232 := Tryz.isAgg296
 z232 := Tryz.sizeOf296
 v232 := Tryz.zeroValue296
 t233 := Tryz.underlying297
 a233 := Tryz.isAgg297
 z233 := Tryz.sizeOf297
 v233 := Tryz.zeroValue297
 g17 := by kernel_rfl
 g18 := by kernel_rfl
 g19 := by kernel_rfl
 i0 := by kernel_rfl
 i2 := by kernel_rfl
 i3 := by kernel_rfl
 i4 := by kernel_rfl
 i5 := by kernel_rfl
 i9 := by kernel_rfl
 i20 := by kernel_rfl
 i37 := by kernel_rfl
 i46 := by kernel_rfl
 i51 := by kernel_rfl
 i53 := by kernel_rfl
 i171 := by kernel_rfl
 i173 := by kernel_rfl
 i212 := by kernel_rfl
 i232 := by kernel_rfl
 i233 := by kernel_rfl
 m17 := by kernel_rfl
 m18 := by kernel_rfl
 m19 := by kernel_rfl }
open Go.RowKit Go.Sort Go.Lib in
theorem Tryz.strconv_Itoa (n : Int) (h0 : -9223372036854775808 <= n) (h1 : n <= 9223372036854775807) (w : World) (htab : Lib.TabIs prog w "internal/strconv.uint64pow10" .u64 Lib.pow10Tab) :
 Calls prog 220 #[.int .i64 n] w fun e w' => e = .returned (.string ⟨(Lib.itoa n).toArray⟩) /\ ∃ k os, w' = grow (w.drewN k) os := Any.strconv_Itoa Tryz.laysM171 n h0 h1 w htab
def Tryz.lays171_ren : Go.Shelf.Ren := ⟨fun | 171 => 220 | 243 => 305 | 246 => 355 | 283 => 383 | 284 => 384 | 285 => 385 | 286 => 386 | 129 => 407 | 317 => 406 | 318 => 408 | 319 => 409 | 320 => 410 | 337 => 441 | 338 => 442 | n => n, fun | 3 => 3 | 9 => 9 | 2 => 2 | 4 => 4 | 171 => 273 | 0 => 0 | 53 => 274 | 37 => 64 | 5 => 5 | 173 => 277 | 212 => 283 | 51 => 284 | 20 => 20 | 213 => 285 | 46 => 110 | 232 => 296 | 233 => 297 | n => n, fun | 17 => 0 | 18 => 1 | 19 => 2 | n => n⟩
theorem Tryz.lays171 : Go.Proofs.Lays.n171 prog Tryz.lays171_ren := {
 mixed := by kernel_rfl
 f129 := func407.trans (congrArg some (by kernel_rfl))
 f171 := func220.trans (congrArg some (by kernel_rfl))
 f243 := func305.trans (congrArg some (by kernel_rfl))
 f246 := func355.trans (congrArg some (by kernel_rfl))
 f283 := func383.trans (congrArg some (by kernel_rfl))
 f284 := func384.trans (congrArg some (by kernel_rfl))
 f285 := func385.trans (congrArg some (by kernel_rfl))
 f286 := func386.trans (congrArg some (by kernel_rfl))
 f317 := func406.trans (congrArg some (by kernel_rfl))
 f318 := func408.trans (congrArg some (by kernel_rfl))
 f319 := func409.trans (congrArg some (by kernel_rfl))
 f320 := func410.trans (congrArg some (by kernel_rfl))
 f337 := func441.trans (congrArg some (by kernel_rfl))
 f338 := func442.trans (congrArg some (by kernel_rfl))
 t0 := Tryz.underlying0
 a0 := Tryz.isAgg0
 z0 := Tryz.sizeOf0
 v0 := Tryz.zeroValue0
 t2 := Tryz.underlying2
 a2 := Tryz.isAgg2
 z2 := Tryz.sizeOf2
 v2 := Tryz.zeroValue2
 t3 := Tryz.underlying3
 a3 := Tryz.isAgg3
 z3 := Tryz.sizeOf3
 v3 := Tryz.zeroValue3
 t4 := Tryz.underlying4
 a4 := Tryz.isAgg4
 z4 := Tryz.sizeOf4
 v4 := Tryz.zeroValue4
 t5 := Tryz.underlying5
 a5 := Tryz.isAgg5
 z5 := Tryz.sizeOf5
 v5 := Tryz.zeroValue5
 t9 := Tryz.underlying9
 a9 := Tryz.isAgg9
 z9 := Tryz.sizeOf9
 v9 := Tryz.zeroValue9
 t20 := Tryz.underlying20
 a20 := Tryz.isAgg20
 z20 := Tryz.sizeOf20
 v20 := Tryz.zeroValue20
 t37 := Tryz.underlying64
 a37 := Tryz.isAgg64
 z37 := Tryz.sizeOf64
 v37 := Tryz.zeroValue64
 t46 := Tryz.underlying110
 a46 := Tryz.isAgg110
 z46 := Tryz.sizeOf110
 v46 := Tryz.zeroValue110
 t51 := Tryz.underlying284
 a51 := Tryz.isAgg284
 z51 := Tryz.sizeOf284
 v51 := Tryz.zeroValue284
 t53 := Tryz.underlying274
 a53 := Tryz.isAgg274
 z53 := Tryz.sizeOf274
 v53 := Tryz.zeroValue274
 t171 := Tryz.underlying273
 a171 := Tryz.isAgg273
 z171 := Tryz.sizeOf273
 v171 := Tryz.zeroValue273
 t173 := Tryz.underlying277
 a173 := Tryz.isAgg277
 z173 := Tryz.sizeOf277
 v173 := Tryz.zeroValue277
 t212 := Tryz.underlying283
 a212 := Tryz.isAgg283
 z212 := Tryz.sizeOf283
 v212 := Tryz.zeroValue283
 t213 := Tryz.underlying285
 a213 := Tryz.isAgg285
 z213 := Tryz.sizeOf285
 t232 := Tryz.underlying296
 a232 := Tryz.isAgg296
 z232 := Tryz.sizeOf296
 v232 := Tryz.zeroValue296
 t233 := Tryz.underlying297
 a233 := Tryz.isAgg297
 z233 := Tryz.sizeOf297
 v233 := Tryz.zeroValue297
 g17 := by kernel_rfl
 g18 := by kernel_rfl
 g19 := by kernel_rfl }
open Go.RowKit Go.Sort Go.Lib in
theorem Tryz.strconv_Itoa_small (i : Nat) (hi : i < 100) (w : World) :
 CS 220 #[.int .i64 i] (.string ⟨(Lib.decDigits i).toArray⟩) w := Any.strconv_Itoa_small Tryz.lays171 i hi w
end
namespace Byt
def regName (n : Nat) : List UInt8 := 120 :: Lib.decDigits n
end Byt
theorem add_str {a b c : ByteArray} (h : a ++ b = c) (hl : a.size + b.size <= 100000) (w : World) : (Op.stringOp .add a b).run prog w = .ok (.string c) w := by
 rw [<- h]; exact run_string_add_sum w a b (by omega)
theorem mk_app (x y : List UInt8) : (⟨x.toArray⟩ : ByteArray) ++ ⟨y.toArray⟩ = ⟨(x ++ y).toArray⟩ := ByteArray.mk_append_mk x y
theorem names_short : ((List.range 100).all fun n => decide ((Lib.decDigits n).length <= 10)) = true := by decide +kernel
theorem a_registerName (n : Nat) (hn : n < 100) (w : World) :
 CS 306 #[.int .i64 n] (Byt.strV (Byt.regName n)) w := by
 have hlen := List.all_eq_true.1 names_short n (by simpa using hn)
 rw [decide_eq_true_eq] at hlen
 obtain ⟨D, hD⟩ := zn1 (⟨(Lib.decDigits n).toArray⟩ : ByteArray)
 obtain ⟨X, hX⟩ := zn1 (⟨(Byt.regName n).toArray⟩ : ByteArray)
 have hadd : ∀ w, (Op.stringOp .add ⟨#[120]⟩ D).run prog w = .ok (.string X) w := fun w => add_str (a := ⟨#[120]⟩) (b := D) (c := X) (by rw [hD, hX]; exact mk_app [120] _) (by rw [hD]; simp [ByteArray.size]; omega) w
 have HX := hide1 hX
 have HD := hide1 hD
 clear hX hD hlen
 go_enter func306, ntmps306
 go_wp2_with fail
 refine (Tryz.strconv_Itoa_small n hn _).mono ?_
 rintro e w' ⟨rfl, rfl⟩
 rw [<- HD.out]
 go_wp2
 go_ret
 exact ⟨by unfold Byt.strV; rw [<- HX.out]; rfl, rfl⟩
def StrsAt (w : World) (b o : Nat) (L : List (List UInt8)) : Prop := ∀ j (h : j < L.length), w.cell? ⟨b, o + j, none⟩ = some (Byt.strV L[j])
theorem StrsAt.below {w w' : World} {b o : Nat} {L : List (List UInt8)} (h : StrsAt w b o L) {n : Nat} (hb : Below n w w') (hn : b < n) : StrsAt w' b o L := fun j hj => by
 rw [hb.cell (p := ⟨b, o + j, none⟩) hn]; exact h j hj
theorem StrsAt.drop {w : World} {b o : Nat} {L : List (List UInt8)} (h : StrsAt w b o L) (k : Nat) : StrsAt w b (o + k) (L.drop k) := fun j hj => by
 have hj' : k + j < L.length := by simp at hj; omega
 have := h (k + j) hj'
 rw [List.getElem_drop, show o + k + j = o + (k + j) by omega]; exact this
theorem StrsAt.of_row {w : World} {base : Nat} {v : Value} {L : List (List UInt8)} (h : w.ownsRow base 9 1 v L.length (L.map Byt.strV)) (hn : v ≠ .slice none 0 0) :
 ∃ b cap, v = .slice (some ⟨b, 0, none⟩) L.length cap /\ base <= b /\ b < w.heap.size /\ StrsAt w b 0 L := by
 rcases h.2 with ⟨hv, _⟩ | ⟨g, cap, cur, rfl, hb, hg, hrest⟩
 . exact absurd hv hn
 . refine ⟨g, cap, rfl, hb, (Array.getElem?_eq_some_iff.1 hg).1, fun j hj => ?_⟩
   rw [Nat.zero_add, h.cellAt j (by omega)]
   rw [List.getElem?_map, List.getElem?_eq_getElem hj]; rfl
theorem a_tokenAt (b o cap : Nat) (L : List (List UInt8)) (_hL : L.length <= 5000) (a : Nat) (ha : a <= 10000) (w : World) (hw : Hid (StrsAt w b o L)) :
 CS 328 #[.slice (some ⟨b, o, none⟩) L.length cap, .int .i64 a] (Byt.strV (L[a]?.getD [])) w := by
 by_cases h : a < L.length
 . have hc := hw.out a h
   rw [List.getElem?_eq_getElem h, Option.getD_some]
   obtain ⟨X, hX⟩ := zn1 (Byt.strV L[a])
   rw [<- hX] at hc |-
   clear hX
   exact zq342
 . rw [List.getElem?_eq_none (by omega)]
   exact zq342
namespace Byt
def regFrom (t : List UInt8) : Nat -> Nat -> Option Nat
 | 0, _ => none
 | f + 1, n => if t = regName n then some n else regFrom t f (n + 1)
def reg (t : List UInt8) : Option Nat := regFrom t 32 0
end Byt
theorem eq_str (s X : ByteArray) (l : List UInt8) (h : X = ⟨l.toArray⟩) : (s.toList == X.toList) = decide (s.data.toList = l) := by
 rw [Lib.toList_data, Lib.toList_data, h, Bool.eq_iff_iff]; simp
theorem a_readRegister (s : ByteArray) (w : World) :
 CS 403 #[.string s] (.tuple #[.int .i64 ((Byt.reg s.data.toList).getD 0 : Nat), .bool (Byt.reg s.data.toList).isSome]) w := by
 obtain ⟨T, hT⟩ := zn1 (Byt.reg s.data.toList)
 rw [<- hT]
 have HT := hide1 hT
 clear hT
 go_enter func403, ntmps403
 go_wp2
 go_loop [4] (fun d => ∃ i : Nat, i <= 32 /\ d = .int .i64 i /\ Hid (T = Byt.regFrom s.data.toList (32 - i) i)) (fun d => 32 - (intOf d).toNat)
 case atStart => exact ⟨0, by omega, rfl, HT⟩
 case round =>
  obtain ⟨i, hi0, rfl, hh⟩ := hrel
  by_cases hi : i < 32
  . obtain ⟨X, hX⟩ := zn1 (⟨(Byt.regName i).toArray⟩ : ByteArray)
    have hX' : Byt.strV (Byt.regName i) = .string X := by rw [hX]; rfl
    have he := eq_str s X _ hX
    have hv : T = if s.data.toList = Byt.regName i then some i else Byt.regFrom s.data.toList (32 - (i + 1)) (i + 1) := by
     rw [hh.out, show 32 - i = (32 - (i + 1)) + 1 by omega]; rfl
    by_cases hc : s.data.toList = Byt.regName i
    . rw [if_pos hc] at hv
      rw [decide_eq_true hc] at he
      have HV := hide1 hv
      have HX := hide1 hX'
      clear hX hX' hv hc hh HT
      go_wp2_with (go_at_call 306; refine (a_registerName i (by omega) _).mono ?_; rintro e w' ⟨rfl, rfl⟩; rw [HX.out])
      exact zq343
    . rw [if_neg hc] at hv
      rw [decide_eq_false hc] at he
      have HV := hide1 hv
      have HX := hide1 hX'
      clear hX hX' hv hc hh HT
      go_wp2_with (go_at_call 306; refine (a_registerName i (by omega) _).mono ?_; rintro e w' ⟨rfl, rfl⟩; rw [HX.out])
      go_round
      case rel => exact ⟨i + 1, by omega, by go_num, HV⟩
      case measure => exact zq188
  . obtain rfl : i = 32 := by omega
    have hT : Hid (T = none) := hh
    clear hh HT
    go_wp2
    go_ret2
    exact zq344
namespace Byt
def nmL (op : Nat) : List UInt8 := (Nm.name op).data.toList
def wrdFrom (t : List UInt8) : Nat -> Nat -> Nat × Nat
 | 0, _ => (0, 0)
 | f + 1, op => if t = nmL op then (op, 4) else if t = 99 :: 46 :: nmL op then (op, 2) else wrdFrom t f (op + 1)
def wrd (t : List UInt8) : Nat × Nat := if t = nmL 71 then (71, 4) else if t = nmL 72 then (72, 2) else wrdFrom t 70 1
end Byt
theorem nm_size : ((List.range 73).all fun n => decide ((Nm.name n).size <= 20)) = true := by decide +kernel
theorem nm_sz (n : Nat) (h : n <= 72) : (Nm.name n).size <= 20 := by
 have := List.all_eq_true.1 nm_size n (by simp; omega)
 rwa [decide_eq_true_eq] at this
theorem mk_list (s : ByteArray) : (⟨s.data.toList.toArray⟩ : ByteArray) = s := by cases s; simp
theorem short_add (n : Nat) (h : n <= 72) (w : World) : (Op.stringOp .add ⟨#[99, 46]⟩ (Nm.name n)).run prog w = .ok (Byt.strV (99 :: 46 :: Byt.nmL n)) w := by
 refine add_str (a := ⟨#[99, 46]⟩) (b := Nm.name n) (c := ⟨(99 :: 46 :: Byt.nmL n).toArray⟩) ?_ (by have := nm_sz n h; have h2 : (⟨#[99, 46]⟩ : ByteArray).size = 2 := rfl; rw [h2]; omega) w
 have h := mk_app [99, 46] (Nm.name n).data.toList
 rw [mk_list] at h
 exact h
theorem a_shortName (n : Nat) (hn : n <= 72) (w : World) :
 CS 221 #[.int .i64 n] (Byt.strV (99 :: 46 :: Byt.nmL n)) w := by
 obtain ⟨D, hD⟩ := zn1 (Nm.name n)
 have hadd := short_add n hn
 rw [<- hD] at hadd
 have HD := hide1 hD
 clear hD
 go_enter func221, ntmps221
 go_wp2_with (go_at_call 219; refine (a_Name n _).mono ?_; rintro e w' ⟨rfl, rfl⟩; rw [<- HD.out])
 exact zq193
theorem eq_nm (s X : ByteArray) : (s.toList == X.toList) = decide (s.data.toList = X.data.toList) := by
 rw [Lib.toList_data, Lib.toList_data, Bool.eq_iff_iff]; simp
theorem a_readWord (s : ByteArray) (w : World) :
 CS 253 #[.string s] (.tuple #[.int .i64 (Byt.wrd s.data.toList).1, .int .i64 (Byt.wrd s.data.toList).2]) w := by
 obtain ⟨T, hT⟩ := zn1 (Byt.wrd s.data.toList)
 rw [<- hT]
 unfold Byt.wrd at hT
 obtain ⟨W1, hW1⟩ := zn1 (Nm.name 71)
 obtain ⟨W2, hW2⟩ := zn1 (Nm.name 72)
 have he1 := eq_nm s W1
 have he2 := eq_nm s W2
 rw [hW1] at he1
 rw [hW2] at he2
 change _ = decide (s.data.toList = Byt.nmL 71) at he1
 change _ = decide (s.data.toList = Byt.nmL 72) at he2
 rw [<- hW1] at he1
 rw [<- hW2] at he2
 have H1 := hide1 hW1
 have H2 := hide1 hW2
 clear hW1 hW2
 by_cases c1 : s.data.toList = Byt.nmL 71
 . rw [if_pos c1] at hT
   rw [decide_eq_true c1] at he1
   subst hT
   clear c1 he2
   go_enter func253, ntmps253
   go_wp2_with (go_at_call 219; refine (a_Name 71 _).mono ?_; rintro e w' ⟨rfl, rfl⟩; rw [<- H1.out])
   exact zq320
 . rw [if_neg c1] at hT
   rw [decide_eq_false c1] at he1
   by_cases c2 : s.data.toList = Byt.nmL 72
   . rw [if_pos c2] at hT
     rw [decide_eq_true c2] at he2
     subst hT
     clear c1 c2
     go_enter func253, ntmps253
     go_wp2_with (go_at_call 219; refine (a_Name _ _).mono ?_; rintro e w' ⟨rfl, rfl⟩; first | rw [<- H1.out] | rw [<- H2.out])
     exact zq320
   . rw [if_neg c2] at hT
     rw [decide_eq_false c2] at he2
     have HT := hide1 hT
     clear c1 c2 hT
     go_enter func253, ntmps253
     go_wp2_with (go_at_call 219; refine (a_Name _ _).mono ?_; rintro e w' ⟨rfl, rfl⟩; first | rw [<- H1.out] | rw [<- H2.out])
     clear he1 he2 H1 H2
     go_loop [4] (fun d => ∃ i : Nat, 1 <= i /\ i <= 71 /\ d = .int .i64 i /\ Hid (T = Byt.wrdFrom s.data.toList (71 - i) i)) (fun d => 71 - (intOf d).toNat)
     case atStart => exact ⟨1, by omega, by omega, rfl, HT⟩
     case round =>
      obtain ⟨i, hi1, hi0, rfl, hh⟩ := hrel
      by_cases hi : i < 71
      . obtain ⟨X, hX⟩ := zn1 (Nm.name i : ByteArray)
        obtain ⟨Y, hY⟩ := zn1 (⟨(99 :: 46 :: Byt.nmL i).toArray⟩ : ByteArray)
        have hY' : Byt.strV (99 :: 46 :: Byt.nmL i) = .string Y := by rw [hY]; rfl
        have he1 : (s.toList == X.toList) = decide (s.data.toList = Byt.nmL i) := by rw [hX]; exact eq_nm s _
        have he2 := eq_str s Y _ hY
        have hv : T = if s.data.toList = Byt.nmL i then (i, 4) else if s.data.toList = 99 :: 46 :: Byt.nmL i then (i, 2) else Byt.wrdFrom s.data.toList (71 - (i + 1)) (i + 1) := by
         rw [hh.out, show 71 - i = (71 - (i + 1)) + 1 by omega]; rfl
        have HX := hide1 hX
        have HY := hide1 hY'
        clear hX hY hY'
        by_cases c1 : s.data.toList = Byt.nmL i
        . rw [if_pos c1] at hv
          rw [decide_eq_true c1] at he1
          have HV := hide1 hv
          clear hv hh HT he2 c1
          go_wp2_with (go_at_call 219; refine (a_Name i _).mono ?_; rintro e w' ⟨rfl, rfl⟩; rw [<- HX.out])
          exact zq343
        . rw [if_neg c1] at hv
          rw [decide_eq_false c1] at he1
          by_cases c2 : s.data.toList = 99 :: 46 :: Byt.nmL i
          . rw [if_pos c2] at hv
            rw [decide_eq_true c2] at he2
            have HV := hide1 hv
            clear hv hh HT c1 c2
            go_wp2_with (first | (go_at_call 219; refine (a_Name i _).mono ?_; rintro e w' ⟨rfl, rfl⟩; rw [<- HX.out]) | (go_at_call 221; refine (a_shortName i (by omega) _).mono ?_; rintro e w' ⟨rfl, rfl⟩; rw [HY.out]))
            exact zq343
          . rw [if_neg c2] at hv
            rw [decide_eq_false c2] at he2
            have HV := hide1 hv
            clear hv hh HT c1 c2
            go_wp2_with (first | (go_at_call 219; refine (a_Name i _).mono ?_; rintro e w' ⟨rfl, rfl⟩; rw [<- HX.out]) | (go_at_call 221; refine (a_shortName i (by omega) _).mono ?_; rintro e w' ⟨rfl, rfl⟩; rw [HY.out]))
            go_round
            case rel => exact ⟨i + 1, by omega, by omega, by go_num, HV⟩
            case measure => exact zq188
      . obtain rfl : i = 71 := by omega
        have hT : Hid (T = (0, 0)) := hh
        clear hh HT
        go_wp2
        go_ret2
        exact zq344
theorem fields_ins : (prog.fieldsOf 53).toList.map (fun f => (f.name, f.type, f.offset)) = [("Op", 3, 0), ("Rd", 3, 1), ("Rs1", 3, 2), ("Rs2", 3, 3), ("Imm", 3, 4), ("Len", 3, 5)] := by kernel_rfl
theorem und_ins : prog.underlying 53 = some (.struct (prog.fieldsOf 53)) := by kernel_rfl
theorem stood_ins : prog.stoodInHeld 53 = false := by kernel_rfl
theorem eqFields_ins (d : Nat) (a0 a1 a2 a3 a4 a5 b0 b1 b2 b3 b4 b5 : Int) (fs : List Field) (h : fs.map (fun f => (f.name, f.type, f.offset)) = [("Op", 3, 0), ("Rd", 3, 1), ("Rs1", 3, 2), ("Rs2", 3, 3), ("Imm", 3, 4), ("Len", 3, 5)]) (w : World) :
 (Op.eqFields (d + 1) #[.int .i64 a0, .int .i64 a1, .int .i64 a2, .int .i64 a3, .int .i64 a4, .int .i64 a5] #[.int .i64 b0, .int .i64 b1, .int .i64 b2, .int .i64 b3, .int .i64 b4, .int .i64 b5] fs).run prog w =
   .ok (a0 == b0 && a1 == b1 && a2 == b2 && a3 == b3 && a4 == b4 && a5 == b5) w := by
 rcases fs with _ | ⟨f0, fs⟩
 . simp at h
 rcases fs with _ | ⟨f1, fs⟩
 . simp at h
 rcases fs with _ | ⟨f2, fs⟩
 . simp at h
 rcases fs with _ | ⟨f3, fs⟩
 . simp at h
 rcases fs with _ | ⟨f4, fs⟩
 . simp at h
 rcases fs with _ | ⟨f5, fs⟩
 . simp at h
 rcases fs with _ | ⟨f6, fs⟩
 . simp only [List.map_cons, List.map_nil, List.cons.injEq, Prod.mk.injEq, and_true] at h
   obtain ⟨⟨n0, t0, o0⟩, ⟨n1, t1, o1⟩, ⟨n2, t2, o2⟩, ⟨n3, t3, o3⟩, ⟨n4, t4, o4⟩, n5, t5, o5⟩ := h
   simp [Op.eqFields, n0, n1, n2, n3, n4, n5, t0, t1, t2, t3, t4, t5, o0, o1, o2, o3, o4, o5, go_sem, part]
   by_cases h0 : a0 = b0 <;> by_cases h1 : a1 = b1 <;> by_cases h2 : a2 = b2 <;> by_cases h3 : a3 = b3 <;> by_cases h4 : a4 = b4 <;> by_cases h5 : a5 = b5 <;> simp [h0, h1, h2, h3, h4, h5]
 . simp at h
theorem eql_ins (a0 a1 a2 a3 a4 a5 b0 b1 b2 b3 b4 b5 : Int) (w : World) :
 (binOp .eql 53 (.agg #[.int .i64 a0, .int .i64 a1, .int .i64 a2, .int .i64 a3, .int .i64 a4, .int .i64 a5]) (.agg #[.int .i64 b0, .int .i64 b1, .int .i64 b2, .int .i64 b3, .int .i64 b4, .int .i64 b5])).run prog w =
   .ok (.bool (a0 == b0 && a1 == b1 && a2 == b2 && a3 == b3 && a4 == b4 && a5 == b5)) w := by
 rw [run_eql_struct, show (10000 : Nat) = 9998 + 1 + 1 from rfl, run_equalIn_agg w (9998 + 1) 53 _ _ und_ins stood_ins, eqFields_ins 9998 _ _ _ _ _ _ _ _ _ _ _ _ _ fields_ins]
 rfl
def seekR (i : Ins) : Nat -> Nat -> Option Nat
 | _, 0 => none
 | v, m + 1 => if v % 4 ≠ 3 /\ sameB (decodeR v).1 i = true then some v else seekR i (v + 1) m
def drawR (i : Ins) : Nat := Pic.draw (Pic.rv (TabR.word i.op).pic.data.toList (TabR.word i.op).pic.size) i.rd i.rs1 i.rs2 i.im
theorem seek_step (i : Ins) (v m : Nat) : seekR i v (m + 1) = if v % 4 ≠ 3 /\ sameB (decodeR v).1 i = true then some v else seekR i (v + 1) m := rfl
def encodeR (i : Ins) : Int × Int :=
 if i.op < 1 \/ 70 < i.op then (0, 3) else
 if i.ln = 4 then
  (if i.rd < 0 \/ i.rs1 < 0 \/ i.rs2 < 0 \/ i.im < -1099511627776 \/ 1099511627776 < i.im then (0, 3) else
    if sameB (decodeR (drawR i)).1 i = true then ((drawR i : Int), 0) else (0, 3)) else
 if i.ln = 2 then (match seekR i 0 65536 with | some v => ((v : Int), 0) | none => (0, 3)) else (0, 3)
theorem same_iff (a b : Ins) : sameB a b = true ↔ a = b := by
 obtain ⟨a0, a1, a2, a3, a4, a5⟩ := a
 obtain ⟨b0, b1, b2, b3, b4, b5⟩ := b
 simp [sameB, and_assoc]
theorem scan_someE {f : Nat -> Option Ins} {j : Ins} : ∀ (m n : Nat), scan f n m = some j -> ∃ k, n <= k /\ k < n + m /\ f k = some j
 | 0, _, h => by cases h
 | m + 1, n, h => by
  rw [scan_step] at h
  cases hf : f n with
  | some i => rw [hf] at h; simp at h; exact ⟨n, by omega, by omega, by rw [hf, h]⟩
  | none =>
   rw [hf] at h
   obtain ⟨k, h1, h2, h3⟩ := scan_someE m (n + 1) h
   exact ⟨k, by omega, by omega, h3⟩
theorem scan_at {f : Nat -> Option Ins} {j : Ins} {k0 : Nat} (hk : f k0 = some j) : ∀ (m n : Nat), n <= k0 -> k0 < n + m -> (∀ k, n <= k -> k < k0 -> f k = none) -> scan f n m = some j
 | 0, n, h1, h2, _ => by omega
 | m + 1, n, h1, h2, h => by
  rw [scan_step]
  by_cases e : n = k0
  . subst e; rw [hk]
  . rw [h n (by omega) (by omega)]
    exact scan_at hk m (n + 1) (by omega) (by omega) (fun k a b => h k (by omega) b)
theorem least_keep {i : Ins} {st : Option Nat} : ∀ (m n : Nat), (∀ k, n <= k -> k < n + m -> rowWord i k = none) -> least i st n m = st
 | 0, _, _ => rfl
 | m + 1, n, h => by
  rw [least_step, h n (by omega) (by omega)]
  exact least_keep m (n + 1) (fun k a b => h k (by omega) (by omega))
theorem least_one {i : Ins} {k0 : Nat} : ∀ (m n : Nat), n <= k0 -> k0 < n + m -> (∀ k, n <= k -> k < n + m -> k ≠ k0 -> rowWord i k = none) -> least i none n m = rowWord i k0
 | 0, n, h1, h2, _ => by omega
 | m + 1, n, h1, h2, h => by
  rw [least_step]
  by_cases e : n = k0
  . subst e
    rw [least_keep m (n + 1) (fun k a b => h k (by omega) (by omega) (by omega))]
    cases rowWord i n <;> rfl
  . rw [h n (by omega) (by omega) e]
    exact least_one m (n + 1) (by omega) (by omega) (fun k a b c => h k (by omega) (by omega) c)
def clash : List UInt8 -> List UInt8 -> Bool
 | x :: p, y :: q => (x == 48 && y == 49) || (x == 49 && y == 48) || clash p q
 | _, _ => false
theorem clash_no : ∀ (p q : List UInt8) (W : Nat), clash p q = true -> Pic.fits p W = true -> Pic.fits q W = true -> False
 | [], _, _, h, _, _ => by simp [clash] at h
 | _ :: _, [], _, h, _, _ => by simp [clash] at h
 | x :: p, y :: q, W, h, hp, hq => by
  simp only [Pic.fits, Bool.and_eq_true] at hp hq
  simp only [clash, Bool.or_eq_true, Bool.and_eq_true, beq_iff_eq] at h
  rcases h with (⟨rfl, rfl⟩ | ⟨rfl, rfl⟩) | h
  . have a := hp.1; have b := hq.1
    simp [Pic.okBit] at a b; omega
  . have a := hp.1; have b := hq.1
    simp [Pic.okBit] at a b; omega
  . exact clash_no p q (W / 2) h hp.2 hq.2
def longQ (n : Nat) : List UInt8 := Pic.rv (Tab.longRow n).2.1.data.toList (Tab.longRow n).2.1.size
def shortQ (n : Nat) : List UInt8 := Pic.rv (Tab.shortRow n).2.1.data.toList (Tab.shortRow n).2.1.size
theorem long_ops : ((List.range 71).all fun n => n == 0 || ((Tab.longRow n).1 == n && (longQ n).take 2 == [49, 49] && (Tab.longRow n).2.1.size == 32)) = true := by decide +kernel
theorem long_clash : ((List.range 71).all fun n => (List.range 71).all fun m => n == 0 || m <= n || clash (longQ n) (longQ m)) = true := by decide +kernel
theorem long_facts (n : Nat) (h1 : 1 <= n) (h2 : n <= 70) : (Tab.longRow n).1 = n /\ (longQ n).take 2 = [49, 49] /\ (Tab.longRow n).2.1.size = 32 := by
 have h := List.all_eq_true.1 long_ops n (by simp; omega)
 simp only [Bool.or_eq_true, Bool.and_eq_true, beq_iff_eq] at h
 rcases h with h | h
 . omega
 . exact ⟨h.1.1, h.1.2, h.2⟩
theorem fits_two {q : List UInt8} {W : Nat} (h : q.take 2 = [49, 49]) (hf : Pic.fits q W = true) : W % 4 = 3 := by
 rcases q with _ | ⟨x, q⟩
 . simp at h
 rcases q with _ | ⟨y, q⟩
 . simp at h
 simp at h
 obtain ⟨rfl, rfl⟩ := h
 simp only [Pic.fits, Bool.and_eq_true] at hf
 have a := hf.1; have b := hf.2.1
 simp [Pic.okBit] at a b; omega
theorem rowFits_fits {t : Int × ByteArray × Int} {W : Nat} (h : rowFits t W = true) : Pic.fits (Pic.rv t.2.1.data.toList t.2.1.size) W = true := by
 unfold rowFits at h; simp only [Bool.and_eq_true] at h; exact h.1
theorem imm_bds (s : ByteArray) (hs : s.size <= 32) (neg : Bool) (W : Nat) : -1099511627776 <= immOf s neg W /\ immOf s neg W <= 1099511627776 := by
 have a := sum_le (Pic.rv s.data.toList s.size) W
 rw [Pic.rv_length _ _ (by simp)] at a
 have b := high_le (Pic.rv s.data.toList s.size)
 unfold immOf Pic.imm
 split <;> omega
theorem long_decode {n W : Nat} (h1 : 1 <= n) (h2 : n <= 70) (hW : W < 4294967296) (hf : rowFits (Tab.longRow n) W = true) : (decodeR W).1 = rowIns (Tab.longRow n) W := by
 obtain ⟨f1, f2, f3⟩ := long_facts n h1 h2
 have hfit := rowFits_fits hf
 have h3 := fits_two f2 hfit
 rw [<- decode_eq]
 unfold decodeD
 have hsz : sizeOf (W : Int) = 4 := by unfold sizeOf; rw [if_neg (by omega), if_pos (by omega)]
 rw [hsz, if_neg (by decide)]
 have hm : rowMeans 4 W n = some (rowIns (Tab.longRow n) W) := by
  unfold rowMeans
  rw [show rowAt 4 n = Tab.longRow n from rfl, if_pos hf]
 have hc : (rowCount 4).toNat = 70 := rfl
 rw [hc, Int.toNat_natCast, scan_at hm 70 1 h1 (by omega) ?_]
 intro k k1 k2
 unfold rowMeans
 rw [if_neg]
 intro hk
 have hcl := List.all_eq_true.1 (List.all_eq_true.1 long_clash k (by simp; omega)) n (by simp; omega)
 simp only [Bool.or_eq_true, beq_iff_eq, decide_eq_true_eq] at hcl
 rcases hcl with (hcl | hcl) | hcl
 . omega
 . omega
 . exact clash_no _ _ W hcl (rowFits_fits hk) hfit
theorem long_found {W : Nat} {i : Ins} (h : (decodeR W).1 = i) (hop : 1 <= i.op) (hln : i.ln = 4) : ∃ n : Nat, (n : Int) = i.op /\ 1 <= n /\ n <= 70 /\ rowFits (Tab.longRow n) W = true /\ rowIns (Tab.longRow n) W = i := by
 rw [<- decode_eq] at h
 unfold decodeD at h
 rcases size_ways (W : Int) with hz | ⟨hz | hz, _⟩
 . rw [if_pos hz] at h; rw [<- h] at hop; simp [ins0] at hop
 . rw [hz, if_neg (by decide), Int.toNat_natCast] at h
   cases hs : scan (rowMeans 4 W) 1 (rowCount 4).toNat with
   | none => rw [hs] at h; rw [<- h] at hop; simp at hop
   | some j =>
    rw [hs] at h
    simp only at h
    subst h
    obtain ⟨k, k1, k2, k3⟩ := scan_someE _ _ hs
    have hc : (rowCount 4).toNat = 70 := rfl
    rw [hc] at k2
    unfold rowMeans at k3
    split at k3
    . next hf =>
      have hj : rowIns (Tab.longRow k) W = j := Option.some.inj k3
      refine ⟨k, ?_, k1, by omega, hf, hj⟩
      rw [<- hj]; exact (long_facts k k1 (by omega)).1.symm
    . cases k3
 . rw [hz, if_neg (by decide), Int.toNat_natCast] at h
   exfalso
   cases hs : scan (rowMeans 2 W) 1 (rowCount 2).toNat with
   | none => rw [hs] at h; rw [<- h] at hop; simp at hop
   | some j =>
    rw [hs] at h
    simp only at h
    subst h
    obtain ⟨k, k1, k2, k3⟩ := scan_someE _ _ hs
    have hc : (rowCount 2).toNat = 26 := rfl
    rw [hc] at k2
    unfold rowMeans at k3
    split at k3
    . have hj : rowIns (Tab.shortRow k) W = j := Option.some.inj k3
      have h16 : ((List.range 27).all fun n => n == 0 || (Tab.shortRow n).2.1.size == 16) = true := by decide +kernel
      have hk := List.all_eq_true.1 h16 k (by simp; omega)
      simp only [Bool.or_eq_true, beq_iff_eq] at hk
      rcases hk with hk | hk
      . omega
      . have : (rowIns (Tab.shortRow k) W).ln = 2 := by unfold rowIns; simp only; rw [hk]; rfl
        rw [hj] at this; omega
    . cases k3
theorem long_draw (n : Nat) (h1 : 1 <= n) (h2 : n <= 70) (i : Ins) (hn : (n : Int) = i.op) : rowDraw (Tab.longRow n) i = drawR i := by
 have h := List.all_eq_true.1 chkW n (by simp; omega)
 rw [Bool.or_eq_true] at h
 rcases h with h | h
 . rw [beq_iff_eq] at h; omega
 . simp only [chk, Bool.and_eq_true, beq_iff_eq, decide_eq_true_eq] at h
   have e := h.1.1.1.1.1.1.1.1.1.1.2
   have es : (Tab.longRow n).2.1.size = (TabR.word n).pic.size := by
    have := congrArg List.length e
    simpa using this
   unfold rowDraw drawR
   rw [<- hn, e, es]
theorem encode_eq4 (i : Ins) (hln : i.ln = 4) : encodeD i = encodeR i := by
 unfold encodeD
 rw [hln, show (rowCount 4).toNat = 70 from rfl]
 by_cases hop : i.op < 1 \/ 70 < i.op
 . rw [least_keep 70 1]
   . unfold encodeR; rw [if_pos hop]
   . intro k k1 k2
     unfold rowWord
     rw [if_neg]
     intro h
     have e : rowAt i.ln k = Tab.longRow k := by rw [hln]; rfl
     rw [e, (long_facts k k1 (by omega)).1] at h
     omega
 . obtain ⟨n, hn⟩ := Int.eq_ofNat_of_zero_le (show 0 <= i.op by omega)
   have n1 : 1 <= n := by omega
   have n2 : n <= 70 := by omega
   have e : ∀ k, rowAt i.ln k = Tab.longRow k := by intro k; rw [hln]; rfl
   rw [least_one (k0 := n) 70 1 n1 (by omega)]
   . have ed := long_draw n n1 n2 i hn.symm
     have hbd : drawR i < 4294967296 := by
      rw [<- ed]; exact draw_bd _ (by rw [(long_facts n n1 n2).2.2]; omega) i
     unfold encodeR
     rw [if_neg hop, if_pos hln]
     by_cases hA : rowFits (Tab.longRow n) (drawR i) = true /\ sameB (rowIns (Tab.longRow n) (drawR i)) i = true
     . have hw : rowWord i n = some (drawR i) := by
        unfold rowWord; rw [e n, ed, if_pos ⟨by rw [(long_facts n n1 n2).1, hn], hA.1, hA.2⟩]
       have hi := (same_iff _ _).1 hA.2
       have hd := long_decode n1 n2 hbd hA.1
       rw [hw, if_neg, if_pos (by rw [hd]; exact hA.2)]
       have him := imm_bds (Tab.longRow n).2.1 (by rw [(long_facts n n1 n2).2.2]; omega) (hasB (Tab.longRow n).2.2 1) (drawR i)
       have ht := told_bd (Tab.longRow n).2.2
       have e1 : i.rd = (regOf (Tab.longRow n).2.1 68 (drawR i) : Int) + regOf (Tab.longRow n).2.1 66 (drawR i) + toldRd (Tab.longRow n).2.2 := (congrArg Ins.rd hi).symm
       have e2 : i.rs1 = (regOf (Tab.longRow n).2.1 83 (drawR i) : Int) + regOf (Tab.longRow n).2.1 66 (drawR i) + toldRs1 (Tab.longRow n).2.2 := (congrArg Ins.rs1 hi).symm
       have e3 : i.rs2 = (regOf (Tab.longRow n).2.1 84 (drawR i) : Int) := (congrArg Ins.rs2 hi).symm
       have e4 : i.im = immOf (Tab.longRow n).2.1 (hasB (Tab.longRow n).2.2 1) (drawR i) := (congrArg Ins.im hi).symm
       rw [e1, e2, e3, e4]
       omega
     . have hw : rowWord i n = none := by
        unfold rowWord; rw [e n, ed, if_neg (fun h => hA ⟨h.2.1, h.2.2⟩)]
       rw [hw]
       show ((0 : Int), (3 : Int)) = _
       by_cases hbad : i.rd < 0 \/ i.rs1 < 0 \/ i.rs2 < 0 \/ i.im < -1099511627776 \/ 1099511627776 < i.im
       . rw [if_pos hbad]
       . rw [if_neg hbad, if_neg]
         intro hs
         obtain ⟨k, k0, k1, k2, k3, k4⟩ := long_found ((same_iff _ _).1 hs) (by omega) hln
         obtain rfl : k = n := by omega
         exact hA ⟨k3, (same_iff _ _).2 k4⟩
   . exact zq345
end Go.Proofs.YtmlgonbhoknoiaaGreatDoor
