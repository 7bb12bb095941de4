import Derived.Test.YtmlgonbhoknoiabGreatDoorXAQ
set_option maxHeartbeats 8000000
set_option linter.all false
namespace Go.Proofs.YtmlgonbhoknoiabGreatDoor
open Go.RowKit Go.Proofs.Tryz
theorem i_EncW (a0 a1 a2 a3 a4 a5 : Int) (w : World) : Calls prog 87 #[.agg #[.int .i64 a0, .int .i64 a1, .int .i64 a2, .int .i64 a3, .int .i64 a4, .int .i64 a5]] w fun e w' => (∃ v f : Int, e = .returned (.tuple #[.int .i64 v, .int .i64 f])) /\ Below w.heap.size w w' :=
 (i_Encode ⟨a0, a1, a2, a3, a4, a5⟩ w).mono (fun _ _ h => ⟨⟨_, _, h.1⟩, h.2⟩)
theorem i_DecW (x : Int) (w : World) : Calls prog 86 #[.int .i64 x] w fun e w' => (∃ a0 a1 a2 a3 a4 a5 f : Int, e = .returned (.tuple #[.agg #[.int .i64 a0, .int .i64 a1, .int .i64 a2, .int .i64 a3, .int .i64 a4, .int .i64 a5], .int .i64 f])) /\ Below w.heap.size w w' :=
 (i_Decode x w).mono (fun _ _ h => ⟨⟨_, _, _, _, _, _, _, h.1⟩, h.2⟩)
theorem a_TxtW (x : Int) (w : World) (ht : Tb w) : Calls prog 88 #[.int .i64 x] w fun e w' => (∃ (X : ByteArray) (f : Int), e = .returned (.tuple #[.string X, .int .i64 f])) /\ Below w.heap.size w w' :=
 (a_Text' x w (hide1 ht)).mono (fun _ _ h => ⟨⟨_, _, h.1⟩, h.2⟩)
theorem a_AsmW (s : ByteArray) (w : World) : Calls prog 67 #[.string s] w fun e w' => (∃ (X : ByteArray) (er n : Int), e = .returned (.tuple #[.string X, .int .i64 er, .int .i64 n])) /\ Below w.heap.size w w' :=
 (a_Assemble s w).mono (fun _ _ h => ⟨⟨_, _, _, h.1⟩, h.2⟩)
theorem u_LeW (v : Int) (n : Int) (hn : n = 2 \/ n = 4) (w : World) : Calls prog 89 #[.int .i64 v, .int .i64 n] w fun e w' => (∃ X : ByteArray, e = .returned (.string X)) /\ Below w.heap.size w w' := by
 rcases hn with rfl | rfl
 . exact (u_Le v 2 (by decide) w).mono (fun _ _ h => ⟨⟨_, h.1⟩, h.2⟩)
 . exact (u_Le v 4 (by decide) w).mono (fun _ _ h => ⟨⟨_, h.1⟩, h.2⟩)
theorem cells6 {w1 w2 : World} {a0 a1 a2 a3 a4 a5 : Value} {t : Nat} {n : Nat} (h : Below n (w1.alloc (.cells #[a0, a1, a2, a3, a4, a5] t)) w2) (hn : w1.heap.size < n) :
 w2.cell? ⟨w1.heap.size, 0, none⟩ = some a0 /\ w2.cell? ⟨w1.heap.size, 1, none⟩ = some a1 /\ w2.cell? ⟨w1.heap.size, 2, none⟩ = some a2 /\ w2.cell? ⟨w1.heap.size, 3, none⟩ = some a3 /\ w2.cell? ⟨w1.heap.size, 4, none⟩ = some a4 /\ w2.cell? ⟨w1.heap.size, 5, none⟩ = some a5 := by
 refine ⟨(h.cell (p := ⟨w1.heap.size, 0, none⟩) hn).trans ?_, (h.cell (p := ⟨w1.heap.size, 1, none⟩) hn).trans ?_, (h.cell (p := ⟨w1.heap.size, 2, none⟩) hn).trans ?_, (h.cell (p := ⟨w1.heap.size, 3, none⟩) hn).trans ?_, (h.cell (p := ⟨w1.heap.size, 4, none⟩) hn).trans ?_, (h.cell (p := ⟨w1.heap.size, 5, none⟩) hn).trans ?_⟩ <;> simp [go_sem]
theorem lt_of6 {w1 w2 : World} {o : Obj} {n : Nat} (h : Below n (w1.alloc o) w2) : w1.heap.size < w2.heap.size := by
 have := h.size
 simp at this; omega
def SomeB (e : Ending) : Prop := ∃ r, e = .returned (.bool r)
set_option maxRecDepth 100000 in
theorem k_wordW (x : Int) (w : World) (ht : Hid (Tb w)) :
 Calls prog 40 #[.int .i64 x] w fun e w' => SomeB e /\ Below w.heap.size w w' := by
 have hq := eql_ins
 have hn := neq_ins
 go_enter func40, ntmps40
 go_wp2_with fail
 refine (i_DecW x w).mono ?_
 rintro e w1 ⟨⟨i0, i1, i2, i3, i4, i5, er, rfl⟩, hb1⟩
 go_upto_if 71 with fail
 all_goals first
  | (go_ret; exact ⟨⟨_, rfl⟩, hb1.alloc hb1.size _⟩)
  | skip
 all_goals
  go_cut [] from 71 to 104 (fun wx => Hid (Below w.heap.size w wx))
  case first =>
   go_wp2_with (first | (go_at_call 87; refine (i_EncW _ _ _ _ _ _ _).mono ?_; rintro e w2 ⟨⟨v, f, rfl⟩, hb2⟩; have HB2 := hide1 ((hb1.alloc hb1.size _).trans (hb2.mono (hb1.alloc hb1.size _).size)); have HH2 := hide1 hb2; clear hb2) | (go_at_call 86; refine (i_DecW _ _).mono ?_; rintro e w3 ⟨⟨j0, j1, j2, j3, j4, j5, er2, rfl⟩, hb3⟩; have HB3 := hide1 (HB2.out.trans (hb3.mono HB2.out.size)); obtain ⟨y0, y1, y2, y3, y4, y5⟩ := cells6 (HH2.out.trans (hb3.mono HH2.out.size)) (by simp); have yl := lt_of6 (HH2.out.trans (hb3.mono HH2.out.size)); clear hb3 HB2 HH2))
   all_goals first
    | (go_meet; case rel => exact hide1 (hb1.alloc hb1.size _))
    | (go_ret; exact ⟨⟨_, rfl⟩, hb1.alloc hb1.size _⟩)
    | (go_ret; exact ⟨⟨_, rfl⟩, HB2.out⟩)
    | (go_meet; case rel => exact hide1 (HB3.out.alloc HB3.out.size _))
    | (go_ret; exact ⟨⟨_, rfl⟩, HB3.out.alloc HB3.out.size _⟩)
  case rest =>
   clear hb1 hq hn
   go_wp2_with (first | (go_at_call 88; refine (a_TxtW _ _ (ht.out.more hcut.out)).mono ?_; rintro e w2 ⟨⟨X, f, rfl⟩, hb2⟩; have HB2 := hide1 (hcut.out.trans (hb2.mono hcut.out.size)); clear hb2) | (go_at_call 67; refine (a_AsmW _ _).mono ?_; rintro e w3 ⟨⟨Y, f3, n3, rfl⟩, hb3⟩; have HB3 := hide1 (HB2.out.trans (hb3.mono HB2.out.size)); clear hb3) | (go_at_call 89; refine (u_LeW _ _ (by decide) _).mono ?_; rintro e w4 ⟨⟨Z, rfl⟩, hb4⟩; have HB4 := hide1 (HB3.out.trans (hb4.mono HB3.out.size)); clear hb4))
   all_goals
    go_ret
    exact ⟨⟨_, rfl⟩, HB4.out⟩
set_option maxRecDepth 100000 in
theorem k_goldW (k : Nat) (hk : k < 96) (w : World) (ht : Hid (Tb w)) :
 Calls prog 51 #[.int .i64 k] w fun e w' => SomeB e /\ Below w.heap.size w w' := by
 obtain ⟨W, X, hkn⟩ : ∃ (W : Int) (X : ByteArray), CS 100 #[.int .i64 k] (.tuple #[.int .i64 W, .string X]) w := ⟨_, _, k_known k hk w⟩
 have HK := hide1 hkn
 clear hkn
 go_enter func51, ntmps51
 go_wp2_with fail
 refine HK.out.mono ?_
 rintro e w1 ⟨rfl, hw1⟩
 rw [hw1]
 clear hw1 HK
 go_wp2_with (first | (go_at_call 88; refine (a_TxtW _ _ ht.out).mono ?_; rintro e w2 ⟨⟨X2, f, rfl⟩, hb2⟩; have HB2 := hide1 hb2; clear hb2) | (go_at_call 67; refine (a_AsmW _ _).mono ?_; rintro e w3 ⟨⟨Y, f3, n3, rfl⟩, hb3⟩; have HB3 := hide1 (HB2.out.trans (hb3.mono HB2.out.size)); clear hb3) | (go_at_call 89; refine (u_LeW _ _ (by decide) _).mono ?_; rintro e w4 ⟨⟨Z, rfl⟩, hb4⟩; have HB4 := hide1 (HB3.out.trans (hb4.mono HB3.out.size)); clear hb4))
 all_goals
  go_ret
  exact ⟨⟨_, rfl⟩, HB4.out⟩
section
variable {X : XS} {R : List UInt8} {x : List Nat} {p : Nat}
def rd2 (R : List UInt8) (p : Nat) : Nat := ldN ((R.drop p).take 2)
def cod (R : List UInt8) (p : Nat) : Nat × (Ins × Int) := (rd2 R p % 4, decodeD ((rd2 R p + rd2 R (p + 2) * 65536 : Nat) : Int))
def setL (x : List Nat) (d v : Nat) : List Nat := if d = 0 then x else x.set d v
variable {X : XS} {R : List UInt8} {x : List Nat} {p : Nat}
def rsvL (p : Nat) (i : NI) (x : List Nat) : Nat :=
 if i.op = 1 then wordN (i.im * 4096) else if i.op = 2 then wordN (((2147483648 + p : Nat) : Int) + i.im * 4096)
 else if i.op <= 27 then alu i.op (x.getD i.rs1 0) (wordN i.im) else alu i.op (x.getD i.rs1 0) (x.getD i.rs2 0)
end
section
attribute [local go_sem ↓] Go.wp_at_zero Go.wp_at_succ
def cz (c : XCsr) : XCsr := { c with cyc := 0, cych := 0, ret := 0, reth := 0 }
def dz (b : BusS) : BusS := { b with ram := [] }
def dv0 : BusS := { ram := [], msip := 0, time := 0, timeh := 0, cmp := 4294967295, cmph := 4294967295, enable := 0, scratch := 0, lost := false, rx := ⟨#[]⟩, tx := ⟨#[]⟩ }
end
theorem getD_set (R : List UInt8) (q j : Nat) (c : UInt8) (h : q < R.length) : (R.set q c).getD j 0 = if j = q then c else R.getD j 0 := by
 rw [List.getD_eq_getElem?_getD, List.getD_eq_getElem?_getD, List.getElem?_set]
 by_cases e : q = j
 . subst e; simp [h]
 . rw [if_neg e, if_neg (fun h => e h.symm)]
theorem laidB_getD : ∀ (l R : List UInt8) (off j : Nat), off + l.length <= R.length -> (laidB R off l).getD j 0 = if off <= j /\ j < off + l.length then l.getD (j - off) 0 else R.getD j 0
 | [], R, off, j, _ => by simp only [laidB, List.length_nil]; rw [if_neg (by omega)]
 | c :: l, R, off, j, h => by
  simp only [List.length_cons] at h |-
  simp only [laidB]
  rw [laidB_getD l _ _ j (by rw [List.length_set]; omega), getD_set _ _ _ _ (by omega)]
  by_cases e : j = off
  . subst e; rw [if_neg (by omega), if_pos rfl, if_pos (by omega), Nat.sub_self]; rfl
  . rw [if_neg e]
    by_cases e2 : off + 1 <= j /\ j < off + 1 + l.length
    . rw [if_pos e2, if_pos (by omega), show j - off = (j - (off + 1)) + 1 by omega]; rfl
    . rw [if_neg e2, if_neg (by omega)]
theorem stN_getD : ∀ (n : Nat) (R : List UInt8) (q v j : Nat), q + n <= R.length -> (stN R q n v).getD j 0 = if q <= j /\ j < q + n then UInt8.ofNat (v / 256 ^ (j - q)) else R.getD j 0
 | 0, R, q, v, j, _ => by simp only [stN]; rw [if_neg (by omega)]
 | n + 1, R, q, v, j, h => by
  simp only [stN]
  rw [stN_getD n _ _ _ j (by rw [List.length_set]; omega), getD_set _ _ _ _ (by omega)]
  by_cases e : j = q
  . subst e; rw [if_neg (by omega), if_pos rfl, if_pos (by omega), Nat.sub_self]; simp
  . rw [if_neg e]
    by_cases e2 : q + 1 <= j /\ j < q + 1 + n
    . rw [if_pos e2, if_pos (by omega), show j - q = (j - (q + 1)) + 1 by omega, Nat.div_div_eq_div_mul, Nat.pow_succ, Nat.mul_comm]
    . rw [if_neg e2, if_neg (by omega)]
theorem ldN_step (R : List UInt8) (q n : Nat) (h : q < R.length) : ldN ((R.drop q).take (n + 1)) = (R.getD q 0).toNat + 256 * ldN ((R.drop (q + 1)).take n) := by
 rw [List.drop_eq_getElem_cons h, List.take_succ_cons, ldN, List.getD_eq_getElem?_getD, List.getElem?_eq_getElem h]; rfl
theorem rd2_eq (R : List UInt8) (p : Nat) (h : p + 2 <= R.length) : rd2 R p = (R.getD p 0).toNat + 256 * (R.getD (p + 1) 0).toNat := by
 unfold rd2; rw [ldN_step _ _ _ (by omega), ldN_step _ _ _ (by omega)]; simp [ldN]
theorem ld4_eq (R : List UInt8) (p : Nat) (h : p + 4 <= R.length) : ldN ((R.drop p).take 4) = (R.getD p 0).toNat + 256 * ((R.getD (p + 1) 0).toNat + 256 * ((R.getD (p + 2) 0).toNat + 256 * (R.getD (p + 3) 0).toNat)) := by
 rw [ldN_step _ _ _ (by omega), ldN_step _ _ _ (by omega), ldN_step _ _ _ (by omega), ldN_step _ _ _ (by omega)]; simp [ldN]
theorem cod_eq {R S : List UInt8} (p : Nat) (hR : p + 4 <= R.length) (hS : p + 4 <= S.length) (h : ∀ j, p <= j -> j < p + 4 -> R.getD j 0 = S.getD j 0) : cod R p = cod S p := by
 unfold cod
 rw [rd2_eq R p (by omega), rd2_eq R (p + 2) (by omega), rd2_eq S p (by omega), rd2_eq S (p + 2) (by omega), h p (by omega) (by omega), h (p + 1) (by omega) (by omega), h (p + 2) (by omega) (by omega), h (p + 2 + 1) (by omega) (by omega)]
theorem le_data (v : Int) : (leA v 4).data.toList = [UInt8.ofNat (v % 256).toNat, UInt8.ofNat (v / 256 % 256).toNat, UInt8.ofNat (v / 65536 % 256).toNat, UInt8.ofNat (v / 16777216 % 256).toNat] := by
 unfold leA
 simp [leL, strOfNums]
section
variable {C : List UInt8} {X : XS} {R : List UInt8} {x : List Nat} {p : Nat}
def bt (R : List UInt8) (j : Nat) : Nat := (R.getD j 0).toNat
theorem ld4_bt (R : List UInt8) (p : Nat) (h : p + 4 <= R.length) : ldN ((R.drop p).take 4) = bt R p + 256 * (bt R (p + 1) + 256 * (bt R (p + 2) + 256 * bt R (p + 3))) := ld4_eq R p h
theorem st_bt (R : List UInt8) (q n v j : Nat) (h : q + n <= R.length) : bt (stN R q n v) j = if q <= j /\ j < q + n then v / 256 ^ (j - q) % 256 else bt R j := by
 unfold bt
 rw [stN_getD _ _ _ _ _ h]
 split
 . exact UInt8.toNat_ofNat'
 . rfl
variable {C : List UInt8} {X : XS} {R : List UInt8} {x : List Nat} {p : Nat}
end
section
variable {C R : List UInt8} {X : XS} {x x' : List Nat} {p p' : Nat} {c c' : XCsr} {b b' : BusS}
def intZ (c : XCsr) (b : BusS) : Int := intD ⟨b, c, [], 0, 3, false, false, 0⟩
structure Cm (c : XCsr) (b : BusS) : Prop where
 int : intZ c b = -1
 mp : c.mstatus / 131072 % 2 = 0
theorem Cm.of (c : XCsr) (b : BusS) (h : c.mie = 0) (h2 : c.mstatus = 0) : Cm c b := by
 refine ⟨?_, by rw [h2]⟩
 have e : askD ⟨b, c, [], 0, 3, false, false, 0⟩ = 0 := by unfold askD; show _ &&& c.mie = 0; rw [h]; simp
 unfold intZ intD intB wout
 rw [e]; simp
variable {C R : List UInt8} {X : XS} {x x' : List Nat} {p p' : Nat} {c c' : XCsr} {b b' : BusS}
theorem setXR_eqs (X : XS) (d v : Nat) : (setXR X d v).waits = X.waits /\ (setXR X d v).mode = X.mode /\ (setXR X d v).b = X.b /\ (setXR X d v).x = setL X.x d v /\ (setXR X d v).c = X.c := by
 unfold setXR setL; split <;> exact ⟨rfl, rfl, rfl, rfl, rfl⟩
end
section
variable {C R : List UInt8} {i1 i0 off r l m : Nat}
theorem laidB_app : ∀ (x y R : List UInt8) (off : Nat), laidB R off (x ++ y) = laidB (laidB R off x) (off + x.length) y
 | [], y, R, off => rfl
 | c :: x, y, R, off => by
  show laidB (R.set off c) (off + 1) (x ++ y) = laidB (laidB (R.set off c) (off + 1) x) (off + (x.length + 1)) y
  rw [laidB_app x y, show off + 1 + x.length = off + (x.length + 1) by omega]
theorem le_len (v : Int) : (leA v 4).data.toList.length = 4 := by rw [le_data]; rfl
theorem ld_laid (R : List UInt8) (off : Nat) (v : Int) (h : off + 4 <= R.length) : ldN (((laidB R off (leA v 4).data.toList).drop off).take 4) = wordN v := by
 have hl := le_len v
 rw [ld4_eq _ _ (by rw [laidB_length]; exact h)]
 simp only [laidB_getD _ _ _ _ (show off + (leA v 4).data.toList.length <= R.length by rw [hl]; exact h), hl]
 rw [if_pos (by omega), if_pos (by omega), if_pos (by omega), if_pos (by omega), Nat.sub_self, show off + 1 - off = 1 by omega, show off + 2 - off = 2 by omega, show off + 3 - off = 3 by omega, le_data]
 simp [wordN]
 omega
theorem ld_laid_far (R : List UInt8) (off : Nat) (l : List UInt8) (q : Nat) (h : off + l.length <= R.length) (hq : q + 4 <= R.length) (hd : q + 4 <= off \/ off + l.length <= q) : ldN (((laidB R off l).drop q).take 4) = ldN ((R.drop q).take 4) := by
 rw [ld4_eq _ _ (by rw [laidB_length]; exact hq), ld4_eq _ _ hq]
 simp only [laidB_getD _ _ _ _ h]
 rw [if_neg (by omega), if_neg (by omega), if_neg (by omega), if_neg (by omega)]
theorem cod_laid_far (R : List UInt8) (off : Nat) (l : List UInt8) (q : Nat) (h : off + l.length <= R.length) (hq : q + 4 <= R.length) (hd : q + 4 <= off \/ off + l.length <= q) : cod (laidB R off l) q = cod R q :=
 cod_eq q (by rw [laidB_length]; exact hq) hq fun j h1 h2 => by rw [laidB_getD _ _ _ _ h, if_neg (by omega)]
theorem ldl_st (R : List UInt8) (v : Nat) (hv : v < 4294967296) (q : Nat) (hq : q + 4 <= R.length) : ldN (((stN R q 4 v).drop q).take 4) = v := by
 rw [ld4_bt _ _ (by rw [stN_length]; omega), st_bt _ _ _ _ _ (by omega), st_bt _ _ _ _ _ (by omega), st_bt _ _ _ _ _ (by omega), st_bt _ _ _ _ _ (by omega), if_pos (by omega), if_pos (by omega), if_pos (by omega), if_pos (by omega), Nat.sub_self, show q + 1 - q = 1 by omega, show q + 2 - q = 2 by omega, show q + 3 - q = 3 by omega]
 simp only [Nat.pow_zero, Nat.div_one, Nat.reducePow]
 omega
theorem ldl_far (R : List UInt8) (v q q' : Nat) (hq : q + 4 <= R.length) (hq' : q' + 4 <= R.length) (hd : q + 4 <= q' \/ q' + 4 <= q) : ldN (((stN R q 4 v).drop q').take 4) = ldN ((R.drop q').take 4) := by
 rw [ld4_bt _ _ (by rw [stN_length]; omega), ld4_bt _ _ (by omega), st_bt _ _ _ _ _ (by omega), st_bt _ _ _ _ _ (by omega), st_bt _ _ _ _ _ (by omega), st_bt _ _ _ _ _ (by omega), if_neg (by omega), if_neg (by omega), if_neg (by omega), if_neg (by omega)]
theorem codl_far (R : List UInt8) (v q p : Nat) (hq : q + 4 <= R.length) (hp : p + 4 <= R.length) (hd : p + 4 <= q) : cod (stN R q 4 v) p = cod R p :=
 cod_eq p (by rw [stN_length]; exact hp) hp fun j h1 h2 => by rw [stN_getD _ _ _ _ _ hq, if_neg (by omega)]
def mpR (C : List UInt8) : List UInt8 := laidB (laidB (List.replicate 16384 0) 0 C) 128 [111, 0, 0, 0]
structure Vw (C R : List UInt8) (i1 i0 off r l m : Nat) : Prop where
 len : R.length = 16384
 code : ∀ p, p + 4 <= 132 -> cod R p = cod (mpR C) p
 b1 : i1 < 1024
 b0 : i0 < 1024
 bo : off + 4 <= 4096
 wr : ldN ((R.drop (4096 + i1 * 4)).take 4) = r
 wl : ldN ((R.drop (8192 + i0 * 4)).take 4) = l
 wm : ldN ((R.drop (12288 + off)).take 4) = m
variable {C R : List UInt8} {i1 i0 off r l m : Nat}
theorem Vw.setR (h : Vw C R i1 i0 off r l m) (v : Nat) (hv : v < 4294967296) : Vw C (stN R (4096 + i1 * 4) 4 v) i1 i0 off v l m := by
 have hl := h.len
 have k1 := h.b1
 have k0 := h.b0
 have ko := h.bo
 exact ⟨by rw [stN_length, hl], fun p hp => (codl_far _ _ _ _ (by omega) (by omega) (by omega)).trans (h.code p hp), k1, k0, ko, ldl_st _ _ hv _ (by omega), (ldl_far _ _ _ _ (by omega) (by omega) (by omega)).trans h.wl, (ldl_far _ _ _ _ (by omega) (by omega) (by omega)).trans h.wm⟩
theorem Vw.setL (h : Vw C R i1 i0 off r l m) (v : Nat) (hv : v < 4294967296) : Vw C (stN R (8192 + i0 * 4) 4 v) i1 i0 off r v m := by
 have hl := h.len
 have k1 := h.b1
 have k0 := h.b0
 have ko := h.bo
 exact ⟨by rw [stN_length, hl], fun p hp => (codl_far _ _ _ _ (by omega) (by omega) (by omega)).trans (h.code p hp), k1, k0, ko, (ldl_far _ _ _ _ (by omega) (by omega) (by omega)).trans h.wr, ldl_st _ _ hv _ (by omega), (ldl_far _ _ _ _ (by omega) (by omega) (by omega)).trans h.wm⟩
theorem Vw.setM (h : Vw C R i1 i0 off r l m) (v : Nat) (hv : v < 4294967296) : Vw C (stN R (12288 + off) 4 v) i1 i0 off r l v := by
 have hl := h.len
 have k1 := h.b1
 have k0 := h.b0
 have ko := h.bo
 exact ⟨by rw [stN_length, hl], fun p hp => (codl_far _ _ _ _ (by omega) (by omega) (by omega)).trans (h.code p hp), k1, k0, ko, (ldl_far _ _ _ _ (by omega) (by omega) (by omega)).trans h.wr, (ldl_far _ _ _ _ (by omega) (by omega) (by omega)).trans h.wl, ldl_st _ _ hv _ (by omega)⟩
end
section
variable {C R : List UInt8} {X : XS} {x x' : List Nat} {p p' : Nat} {c c' : XCsr} {b b' : BusS}
theorem mc768 (X : XS) : rcsD X 768 = (X.c.mstatus, true) := rfl
theorem mc773 (X : XS) : rcsD X 773 = (X.c.mtvec, true) := rfl
end
section
variable {C R R' : List UInt8} {X : XS} {x x' : List Nat} {p p' : Nat} {c c' : XCsr}
structure Qt (X : XS) (R : List UInt8) (x : List Nat) (p : Nat) (c : XCsr) : Prop where
 len : R.length = 16384
 waits : X.waits = false
 mode : X.mode = 3
 ram : X.b.ram = R
 x : X.x = x
 pc : X.pc = 2147483648 + p
 mie : c.mie = 0
 c : cz X.c = c
def Gt (X : XS) (R : List UInt8) (x : List Nat) (p : Nat) (c : XCsr) : Prop := ∃ Z, Qt Z R x p c /\ ∀ n k, runG (n + 1) k X = runG n (k + 1) Z
def Ht (X : XS) (R : List UInt8) (x : List Nat) (p : Nat) (c : XCsr) : Prop := ∃ Z, Qt Z R x p c /\ ∀ n k, runG (n + 1) k X = runG n k Z
variable {C R R' : List UInt8} {X : XS} {x x' : List Nat} {p p' : Nat} {c c' : XCsr}
theorem Gt.cast (h : Gt X R x p c) (x' : List Nat) (e : x = x') : Gt X R x' p c := e ▸ h
theorem Qt.int (h : Qt X R x p c) : intD X = -1 := by
 have hm : X.c.mie = 0 := (show (cz X.c).mie = 0 by rw [h.c]; exact h.mie)
 have e : askD X = 0 := by unfold askD; rw [hm]; simp
 unfold intD intB wout
 rw [e]; simp
theorem Qt.wak (h : Qt X R x p c) : wakX X = X := by
 have := h.waits
 cases X; simp only at this; subst this; rfl
theorem Qt.tr0 (h : Qt X R x p c) (va : Nat) : trD X.b (xC X) va 0 = ((va, 0), X.b) := by
 have e : actsD (xC X) (0 : Nat) = 3 := h.mode
 unfold trD pgD
 rw [e]; rfl
theorem Qt.half (h : Qt X R x p c) (a : Nat) (hq : a + 2 <= 16384) : halfD X.b (xC X) (2147483648 + a) = ((rd2 R a, 0), X.b) := by
 unfold halfD halfP
 rw [h.tr0]
 have hl := h.len
 have e : holdsD ((2147483648 + a : Nat) : Int) 2 X.b.ram.length = true := by unfold holdsD; rw [h.ram]; simp; omega
 simp only [e, if_true]
 unfold rdRam rd2
 rw [h.ram, show 2147483648 + a - 2147483648 = a by omega]
theorem Qt.fetch (h : Qt X R x p c) (hp : p + 4 <= 1024) (h3 : rd2 R p % 4 = 3) : fetchD X.b (xC X) X.pc = (⟨rd2 R p + rd2 R (p + 2) * 65536, 0, 0⟩, X.b) := by
 unfold fetchD
 rw [h.pc, show (2147483648 + p + 2) % 4294967296 = 2147483648 + (p + 2) by omega, h.half p (by omega)]
 simp only [h3, if_true]
 rw [h.half (p + 2) (by omega)]
 simp only [if_true]
theorem Qt.go (h : Qt X R x p c) (I : Ins) (hp : p + 4 <= 1024) (hk : cod R p = (3, (I, 0))) {Y : XS} (hc : ∀ v, croX X (niOf I) v = ((-1, 0), Y))
 (y0 : R'.length = 16384) (y1 : Y.waits = false) (y2 : Y.mode = 3) (y3 : Y.b.ram = R') (y4 : Y.x = x') (y5 : npcD X (niOf I) = 2147483648 + p') (y6 : cz Y.c = c') (y7 : c'.mie = 0) : Gt X R' x' p' c' := by
 have h3 : rd2 R p % 4 = 3 := congrArg Prod.fst hk
 have hd : decodeD ((rd2 R p + rd2 R (p + 2) * 65536 : Nat) : Int) = (I, 0) := congrArg Prod.snd hk
 have e : insX X = ((niOf I, (-1, 0)), { Y with pc := npcD X (niOf I) }) := by
  unfold insX
  rw [h.fetch hp h3]
  simp only [hd, if_true]
  have e : X.withB X.b = X := rfl
  rw [e]
  unfold insR
  rw [hc]; simp
 have e : actX X = ((0, 0, cwrD (niOf I)), { Y with pc := npcD X (niOf I) }) := by
  unfold actX
  rw [if_neg (by rw [h.waits]; simp), h.wak, if_pos h.int, e]
  unfold actE; simp
 obtain ⟨m, e⟩ : ∃ m, stepX X = ((0, 0), cntX { Y with pc := npcD X (niOf I) } true m) := by
  unfold stepX
  rw [e]
  exact ⟨_, rfl⟩
 refine ⟨(stepX X).2, ?_, fun n k => ?_⟩
 . rw [e]; exact ⟨y0, y1, y2, y3, y4, y5, y7, y6⟩
 . exact zq380
theorem Qt.exc (h : Qt X R x p c) (I : Ins) (hp : p + 4 <= 1024) (hk : cod R p = (3, (I, 0))) {Y : XS} (a t : Nat) (ha : a < 32) (hc : ∀ v, croX X (niOf I) v = (((a : Int), t), Y))
 (y0 : R'.length = 16384) (y1 : Y.waits = false) (y2 : Y.mode = 3) (y3 : Y.b.ram = R') (y4 : Y.x = x) (y5 : Y.pc = X.pc) (y6 : cz Y.c = c) (hv : xhdlD c.mtvec a = 2147483648 + p') (c' : XCsr) (hc' : cz { c with mepc := 2147483648 + p, mcause := a, mtval := t, mstatus := xmtrD c.mstatus 3 } = c') (hm : c'.mie = 0) : Ht X R' x p' c' := by
 have h3 : rd2 R p % 4 = 3 := congrArg Prod.fst hk
 have hd : decodeD ((rd2 R p + rd2 R (p + 2) * 65536 : Nat) : Int) = (I, 0) := congrArg Prod.snd hk
 have hn : ¬ (a : Int) = -1 := by omega
 have e : insX X = ((ni0, ((a : Int), t)), Y) := by
  unfold insX
  rw [h.fetch hp h3]
  simp only [hd, if_true]
  have e : X.withB X.b = X := rfl
  rw [e]
  unfold insR
  rw [hc, if_neg hn]
 have e : actX X = ((1, (a : Int), 0), tmX Y a t) := by
  unfold actX
  rw [if_neg (by rw [h.waits]; simp), h.wak, if_pos h.int, e]
  unfold actE
  rw [if_neg hn]
  unfold teX dlgB
  rw [y2]; rfl
 obtain ⟨m, e⟩ : ∃ m, stepX X = ((1, (a : Int)), cntX (tmX Y a t) false m) := by
  unfold stepX
  rw [e]
  exact ⟨_, rfl⟩
 have hm2 : Y.c.mtvec = c.mtvec := (congrArg XCsr.mtvec y6 : (cz Y.c).mtvec = c.mtvec)
 refine ⟨(stepX X).2, ?_, fun n k => ?_⟩
 . rw [e]
   refine ⟨y0, y1, rfl, y3, y4, ?_, hm, ?_⟩
   . show xhdlD Y.c.mtvec a = _; rw [hm2, hv]
   . rw [<- hc', <- y6, <- h.pc, <- y5]
     show cz { Y.c with mepc := Y.pc, mcause := a, mtval := t, mstatus := xmtrD Y.c.mstatus Y.mode } = _
     rw [y2]; rfl
 . exact zq380
theorem Qt.goR (h : Qt X R x p c) (I : Ins) (hp : p + 4 <= 1024) (hk : cod R p = (3, (I, 0))) (d v : Nat) (hc : ∀ u, croX X (niOf I) u = ((-1, 0), setXR X d v)) (y5 : npcD X (niOf I) = 2147483648 + p') : Gt X R (setL x d v) p' c := by
 obtain ⟨e1, e2, e3, e4, e5⟩ := setXR_eqs X d v
 exact h.go I hp hk hc h.len (by rw [e1, h.waits]) (by rw [e2, h.mode]) (by rw [e3, h.ram]) (by rw [e4, h.x]) y5 (by rw [e5, h.c]) h.mie
theorem Qt.npc (h : Qt X R x p c) (I : Ins) (hp : p + 4 <= 1024) (h4 : I.ln = 4) (ho : I.op = 1 \/ I.op = 2 \/ 11 <= I.op) (ho2 : ¬ (I.op = 67 \/ I.op = 68)) : npcD X (niOf I) = 2147483648 + (p + 4) := by
 unfold npcD behD
 have e : (niOf I).op = I.op := rfl
 have e' : (niOf I).ln = 4 := by show I.ln.toNat = 4; rw [h4]; rfl
 rw [e, e', if_neg (by omega), if_neg (by omega), if_neg (by omega), if_neg (by omega), h.pc]
 omega
theorem Qt.alu (h : Qt X R x p c) (I : Ins) (hk : cod R p = (3, (I, 0))) (ho : (p + 4 <= 1024 /\ xresD I.op = true /\ ¬ (I.op = 3 \/ I.op = 4)) /\ I.ln = 4) (v : Nat) (hv : rsvL p (niOf I) x = v) : Gt X R (setL x I.rd.toNat v) (p + 4) c := by
 have ho' := ho.1.2.1
 unfold xresD at ho'
 simp only [decide_eq_true_eq] at ho'
 have e : (niOf I).op = I.op := rfl
 have e1 : rsvD X (niOf I) = v := by
  rw [<- hv]
  unfold rsvD rsvL
  rw [h.x, h.pc, e, if_neg ho.1.2.2]
 refine h.goR I ho.1.1 hk I.rd.toNat v (fun u => ?_) (h.npc I ho.1.1 ho.2 (by omega) (by omega))
 unfold croX
 rw [if_pos (show xresD (niOf I).op = true from ho.1.2.1), e1]; rfl
theorem Qt.jal (h : Qt X R x p c) (I : Ins) (hk : cod R p = (3, (I, 0))) (ho : (p + 4 <= 1024 /\ I.op = 3 /\ I.rd = 0) /\ I.ln = 4) (p' : Nat) (hj : wordN ((2147483648 + p : Nat) + I.im) = 2147483648 + p') : Gt X R x p' c := by
 have e : (niOf I).op = I.op := rfl
 have hx : xresD (niOf I).op = true := by unfold xresD; rw [e]; simp; omega
 have e2 : npcD X (niOf I) = 2147483648 + p' := by
  unfold npcD tgtD
  rw [e, h.pc, show (niOf I).im = I.im from rfl, if_pos (.inl ho.1.2.1), hj]
 refine h.go I ho.1.1 hk (Y := X) (fun v => ?_) h.len h.waits h.mode h.ram h.x e2 h.c h.mie
 unfold croX
 rw [if_pos hx, show (niOf I).rd = 0 from by show I.rd.toNat = 0; rw [ho.1.2.2]; rfl]; rfl
theorem Qt.spin (hk : cod R p = (3, (⟨3, 0, 0, 0, 0, 4⟩, 0))) (hp : p + 4 <= 1024) : ∀ (n k : Nat) (X : XS), Qt X R x p c -> ∃ Y, runG n k X = (k + n, Y) /\ Qt Y R x p c
 | 0, k, X, h => ⟨X, rfl, h⟩
 | n + 1, k, X, h => by
  obtain ⟨X1, h1, e1⟩ := h.jal ⟨3, 0, 0, 0, 0, 4⟩ hk ⟨⟨hp, rfl, rfl⟩, rfl⟩ p (by unfold wordN; simp; omega)
  obtain ⟨Y, r, h2⟩ := Qt.spin hk hp n (k + 1) X1 h1
  exact ⟨Y, by rw [e1, r, show k + 1 + n = k + (n + 1) by omega], h2⟩
theorem reach_w {B B' : BusS} {C : CsrS} {va q k : Nat} (hg : va % 4096 + 4 <= 4096) (ht : trD B C va k = ((2147483648 + q, 0), B')) (hq : q + 4 <= B'.ram.length) : reachD B C va 4 k = (⟨2147483648 + q, 4, 0, 0, 0, 0⟩, B') := by
 rw [reach_one _ _ _ _ _ (by omega)]
 unfold one1 rpD rpP
 rw [ht]
 have e : takesD ((2147483648 + q : Nat) : Int) ((4 : Nat) : Int) B'.ram.length = true := zq140
 simp only [e, if_true]
theorem reach_w0 {B B' : BusS} {C : CsrS} {va k f : Nat} (hg : va % 4096 + 4 <= 4096) (hf : ¬ f = 0) (ht : trD B C va k = ((0, f), B')) : reachD B C va 4 k = (⟨0, 0, 0, 0, f, va⟩, B') := by
 rw [reach_one _ _ _ _ _ (by omega)]
 unfold one1 rpD rpP
 rw [ht]
 simp only [if_neg hf]
theorem Qt.tload (h : Qt X R x p c) (I : Ins) (hk : cod R p = (3, (I, 0))) (va q : Nat) (ho : (p + 4 <= 1024 /\ I.op = 13) /\ I.ln = 4) (hg : va % 4096 + 4 <= 4096) (hva : wordN ((x.getD I.rs1.toNat 0 : Int) + I.im) = va) (B' : BusS) (ht : trD X.b (xC X) va 1 = ((2147483648 + q, 0), B')) (hB : B'.ram = R') (hl : R'.length = 16384) (hq : q + 4 <= 16384) (v : Nat) (hv : ldN ((R'.drop q).take 4) = v) : Gt X R' (setL x I.rd.toNat v) (p + 4) c := by
 have e : (niOf I).op = I.op := rfl
 have hx : ¬ xresD I.op = true := zq141
 have hn : nD I.op = 4 := by rw [ho.1.2]; rfl
 have hw : ∀ u, ldvD I.op u = u := fun u => by rw [ho.1.2]; rfl
 have hc : ∀ u, croX X (niOf I) u = ((-1, 0), setXR (X.withB B') I.rd.toNat v) := fun u => by
  unfold croX
  rw [e, if_neg hx, if_neg (by omega), if_pos (by omega)]
  unfold ldX ldF vaD
  rw [h.x, e, show (niOf I).rs1 = I.rs1.toNat from rfl, show (niOf I).im = I.im from rfl, hva, hn, reach_w hg ht (by rw [hB, hl]; exact hq)]
  have hr : loadD B' ⟨2147483648 + q, 4, 0, 0, 0, 0⟩ = (v, B') := by
   unfold loadD readD rdRam
   simp only [Nat.lt_irrefl, if_false]
   rw [hB, hl, if_pos (by unfold holdsD; simp; omega), show ((((2147483648 + q : Nat) : Int)) - 2147483648).toNat = q by omega, Int.toNat_natCast, hv]
  simp only [hr, if_true]
  rw [hw]; rfl
 obtain ⟨e1, e2, e3, e4, e5⟩ := setXR_eqs (X.withB B') I.rd.toNat v
 exact h.go I ho.1.1 hk hc hl (by rw [e1]; exact h.waits) (by rw [e2]; exact h.mode) (by rw [e3]; exact hB) (by rw [e4]; show setL X.x _ _ = _; rw [h.x]) (h.npc I ho.1.1 ho.2 (by omega) (by omega)) (by rw [e5]; exact h.c) h.mie
theorem Qt.tstore (h : Qt X R x p c) (I : Ins) (hk : cod R p = (3, (I, 0))) (va q : Nat) (ho : (p + 4 <= 1024 /\ I.op = 18) /\ I.ln = 4) (hg : va % 4096 + 4 <= 4096) (hva : wordN ((x.getD I.rs1.toNat 0 : Int) + I.im) = va) (B' : BusS) (ht : trD X.b (xC X) va 2 = ((2147483648 + q, 0), B')) (hB : B'.ram = R') (hl : R'.length = 16384) (hq : q + 4 <= 16384) (v : Nat) (hv : x.getD I.rs2.toNat 0 = v) : Gt X (stN R' q 4 v) x (p + 4) c := by
 have e : (niOf I).op = I.op := rfl
 have hx : ¬ xresD I.op = true := zq141
 have hn : nD I.op = 4 := by rw [ho.1.2]; rfl
 have hc : ∀ u, croX X (niOf I) u = ((-1, 0), X.withB { B' with ram := stN R' q 4 v }) := fun u => by
  unfold croX
  rw [e, if_neg hx, if_neg (by omega), if_neg (by omega), if_pos (by omega)]
  unfold stX stF vaD
  rw [h.x, e, show (niOf I).rs1 = I.rs1.toNat from rfl, show (niOf I).im = I.im from rfl, hva, hn, reach_w hg ht (by rw [hB, hl]; exact hq)]
  have hr : storeD B' ⟨2147483648 + q, 4, 0, 0, 0, 0⟩ (x.getD (niOf I).rs2 0) = { B' with ram := stN R' q 4 v } := by
   unfold storeD writeD
   simp only [Nat.lt_irrefl, if_false]
   rw [hB, hl, if_pos (by unfold holdsD; simp; omega), show ((((2147483648 + q : Nat) : Int)) - 2147483648).toNat = q by omega, Int.toNat_natCast, show x.getD (niOf I).rs2 0 = v from hv]
  simp only [hr, if_true]
 exact h.go I ho.1.1 hk hc (by rw [stN_length, hl]) h.waits h.mode rfl h.x (h.npc I ho.1.1 ho.2 (by omega) (by omega)) h.c h.mie
theorem Qt.tfault (h : Qt X R x p c) (I : Ins) (hk : cod R p = (3, (I, 0))) (va : Nat) (ho : (p + 4 <= 1024 /\ (I.op = 13 \/ I.op = 18)) /\ I.ln = 4) (hg : va % 4096 + 4 <= 4096) (hva : wordN ((x.getD I.rs1.toNat 0 : Int) + I.im) = va) (ht : trD X.b (xC X) va (if I.op = 13 then 1 else 2) = ((0, 1), X.b)) (a : Nat) (ha : xfauD 1 (if I.op = 13 then 1 else 2) = (a : Int)) (ha2 : a < 32) (hv : xhdlD c.mtvec a = 2147483648 + p') (c' : XCsr) (hc' : cz { c with mepc := 2147483648 + p, mcause := a, mtval := va, mstatus := xmtrD c.mstatus 3 } = c') (hm : c'.mie = 0) : Ht X R x p' c' := by
 have e : (niOf I).op = I.op := rfl
 have hx : ¬ xresD I.op = true := zq141
 have hc : ∀ u, croX X (niOf I) u = (((a : Int), va), X) := fun u => by
  unfold croX
  rcases ho.1.2 with h13 | h18
  . rw [if_pos h13] at ht ha
    rw [e, if_neg hx, if_neg (by omega), if_pos (by omega)]
    unfold ldX ldF vaD
    rw [h.x, e, show (niOf I).rs1 = I.rs1.toNat from rfl, show (niOf I).im = I.im from rfl, hva, show nD I.op = 4 by rw [h13]; rfl, reach_w0 hg (by decide) ht]
    rw [if_neg (show ¬ (1 : Nat) = 0 by decide)]
    show ((xfauD 1 1, va), X.withB X.b) = _
    rw [ha]; rfl
  . rw [if_neg (by omega)] at ht ha
    rw [e, if_neg hx, if_neg (by omega), if_neg (by omega), if_pos (by omega)]
    unfold stX stF vaD
    rw [h.x, e, show (niOf I).rs1 = I.rs1.toNat from rfl, show (niOf I).im = I.im from rfl, hva, show nD I.op = 4 by rw [h18]; rfl, reach_w0 hg (by decide) ht]
    rw [if_neg (show ¬ (1 : Nat) = 0 by decide)]
    show ((xfauD 1 2, va), X.withB X.b) = _
    rw [ha]; rfl
 exact h.exc I ho.1.1 hk a va ha2 hc h.len h.waits h.mode h.ram h.x rfl h.c hv c' hc' hm
end
section
variable {C R R' : List UInt8} {X : XS} {x x' : List Nat} {p p' : Nat} {c c' : XCsr} {i1 i0 off r l m : Nat}
theorem mc384 (X : XS) : rcsD X 384 = (X.c.satp, true) := rfl
theorem Qt.csrw (h : Qt X R x p c) (I : Ins) (hk : cod R p = (3, (I, 0))) (ho : (p + 4 <= 1024 /\ I.op = 61 /\ I.rd = 0) /\ I.ln = 4 /\ (I.im = 768 \/ I.im = 773 \/ I.im = 384)) (v : Nat) (hv : x.getD I.rs1.toNat 0 = v) (c' : XCsr) (hc' : cz (wcsX ⟨dv0, c, [], 0, 3, false, false, 0⟩ I.im v).c = c') (hm' : c'.mie = 0) : Gt X R x (p + 4) c' := by
 have e : (niOf I).op = I.op := rfl
 have hx : ¬ xresD I.op = true := zq141
 have hr : ∃ s, rcsD X (niOf I).im = (s, true) := by
  rcases ho.2.2 with hi | hi | hi <;> rw [show (niOf I).im = I.im from rfl, hi]
  . exact ⟨_, mc768 X⟩
  . exact ⟨_, mc773 X⟩
  . exact ⟨_, mc384 X⟩
 obtain ⟨s, hr⟩ := hr
 have hm : mayB X (niOf I) = true := by
  unfold mayB mayT
  rw [hr, h.mode]
  rcases ho.2.2 with hi | hi | hi <;> rw [show (niOf I).im = I.im from rfl, hi] <;> rfl
 have hw : wrcB (niOf I) = true := by unfold wrcB; rw [e]; simp; omega
 have ec : ccrX X (niOf I) = wcsX X I.im v := by
  unfold ccrX
  rw [if_pos hw]
  have e0 : ∀ u, setXR X (niOf I).rd u = X := fun u => by unfold setXR; rw [if_pos (by show I.rd.toNat = 0; rw [ho.1.2.2]; rfl)]
  rw [e0]
  have ev : ∀ o, xchgD (niOf I).op o (opdD X (niOf I)) = v := fun o => by
   unfold xchgD opdD
   rw [e, if_neg (by omega), if_neg (by omega), h.x, if_pos (by omega)]; exact hv
  rw [ev]; rfl
 have hc : ∀ u, croX X (niOf I) u = ((-1, 0), wcsX X I.im v) := fun u => by
  unfold croX
  rw [e, if_neg hx, if_neg (by omega), if_neg (by omega), if_neg (by omega), if_neg (by omega), if_neg (by omega), if_neg (by omega), if_pos ⟨by omega, hm⟩, ec]
 have hn := h.npc I ho.1.1 ho.2.1 (by omega) (by omega)
 rw [<- h.c] at hc'
 have w1 : ∀ Z, wcsX Z 768 v = { Z with c := { Z.c with mstatus := xstwD Z.c.mstatus v } } := fun _ => rfl
 have w2 : ∀ Z, wcsX Z 773 v = { Z with c := { Z.c with mtvec := wout v 2 } } := fun _ => rfl
 have w3 : ∀ Z, wcsX Z 384 v = { Z with c := { Z.c with satp := v } } := fun _ => rfl
 rcases ho.2.2 with hi | hi | hi
 . rw [hi, w1] at hc hc'
   exact zq381
 . rw [hi, w2] at hc hc'
   exact zq381
 . rw [hi, w3] at hc hc'
   exact zq381
structure Pg (c : XCsr) : Prop where
 ms : c.mstatus = 133120
 sp : c.satp = 2148007937
theorem Qt.trOff (h : Qt X R x p c) (h0 : c.mstatus = 0) (va k : Nat) : trD X.b (xC X) va k = ((va, 0), X.b) := by
 have hs : X.c.mstatus = 0 := (show (cz X.c).mstatus = 0 by rw [h.c]; exact h0)
 have e : actsD (xC X) k = 3 := by
  have hm : (xC X).mprv = 0 := by show X.c.mstatus / 2 ^ 17 % 2 = 0; rw [hs]
  unfold actsD
  rw [hm, show (xC X).mode = 3 from h.mode]; simp
 unfold trD pgD
 rw [e]; rfl
theorem Qt.on (h : Qt X R x p c) (g : Pg c) (va k : Nat) (hk : k = 1 \/ k = 2) : trD X.b (xC X) va k = walk1 X.b (xC X) 2147487744 va k 1 /\ (xC X).sum = 0 /\ (xC X).mxr = 0 := by
 have hs : X.c.mstatus = 133120 := (show (cz X.c).mstatus = 133120 by rw [h.c]; exact g.ms)
 have hp : X.c.satp = 2148007937 := (show (cz X.c).satp = 2148007937 by rw [h.c]; exact g.sp)
 have e : actsD (xC X) k = 1 := by
  have hm : (xC X).mprv = 1 := by show X.c.mstatus / 2 ^ 17 % 2 = 1; rw [hs]
  have hm2 : (xC X).mpp = 1 := by show X.c.mstatus / 2048 % 4 = 1; rw [hs]
  unfold actsD
  rw [hm, hm2, if_neg (by simp; omega)]; rfl
 refine ⟨?_, by show X.c.mstatus / 2 ^ 18 % 2 = 0; rw [hs], by show X.c.mstatus / 2 ^ 19 % 2 = 0; rw [hs]⟩
 have hq : (xC X).satp = 2148007937 := hp
 have pg : pgD (xC X) k = true := by
  unfold pgD
  rw [e, hq, if_pos (by decide)]
  exact decide_eq_true (by omega)
 have ht : 2148007937 % 4194304 * 4096 = 2147487744 := by omega
 unfold trD
 rw [if_pos pg, hq, e, ht]
theorem Vw.ent1 (v : Vw C R i1 i0 off r l m) {B : BusS} (hR : B.ram = R) {va : Nat} (hi : va / 4194304 = i1) : holdsD ((entA 2147487744 va 1 : Nat) : Int) 4 B.ram.length = true /\ entE B (entA 2147487744 va 1) = r /\ entA 2147487744 va 1 = 2147483648 + (4096 + i1 * 4) := by
 have k1 := v.b1
 have e : entA 2147487744 va 1 = 2147483648 + (4096 + i1 * 4) := by
  show 2147487744 + va / 4194304 % 1024 * 4 = _
  rw [hi]; omega
 rw [e]
 refine ⟨by rw [hR, v.len]; unfold holdsD; simp; omega, ?_, rfl⟩
 unfold entE rdRam
 rw [hR, show 2147483648 + (4096 + i1 * 4) - 2147483648 = 4096 + i1 * 4 by omega, v.wr]
theorem Vw.ent0 (v : Vw C R i1 i0 off r l m) {B : BusS} (hR : B.ram = R) {va : Nat} (hi : va / 4096 % 1024 = i0) : holdsD ((entA 2147491840 va 0 : Nat) : Int) 4 B.ram.length = true /\ entE B (entA 2147491840 va 0) = l /\ entA 2147491840 va 0 = 2147483648 + (8192 + i0 * 4) := by
 have k1 := v.b0
 have e : entA 2147491840 va 0 = 2147483648 + (8192 + i0 * 4) := by
  show 2147491840 + va / 4096 % 1024 * 4 = _
  rw [hi]; omega
 rw [e]
 refine ⟨by rw [hR, v.len]; unfold holdsD; simp; omega, ?_, rfl⟩
 unfold entE rdRam
 rw [hR, show 2147483648 + (8192 + i0 * 4) - 2147483648 = 8192 + i0 * 4 by omega, v.wl]
theorem Vw.ptr (v : Vw C R i1 i0 off 536872961 l m) {B : BusS} (hR : B.ram = R) {S : CsrS} {va k : Nat} (hi : va / 4194304 = i1) : walk1 B S 2147487744 va k 1 = walk0 B S 2147491840 va k 1 := by
 obtain ⟨e1, e2, e3⟩ := v.ent1 hR hi
 unfold walk1
 rw [if_neg (by rw [e1]; simp), e2, if_neg (by decide), if_pos (by decide), if_neg (by decide)]
theorem Vw.leaf (v : Vw C R i1 i0 off r l m) {B : BusS} (hR : B.ram = R) {S : CsrS} (s1 : S.sum = 0) (s2 : S.mxr = 0) {va k : Nat} (hi : va / 4096 % 1024 = i0) (b0 : bitN l 0 = true) (b1 : bitN l 1 = true) (ha : allB 1 k (bitN l 4) (bitN l 1) (bitN l 2) (bitN l 3) false false = true) (d : Nat) (hd : adB (bitN l 6) (bitN l 7) k = d) :
 walk0 B S 2147491840 va k 1 = ((l / 1024 * 4096 + va % 4096, 0), if d = 0 then B else { B with ram := stN R (8192 + i0 * 4) 4 (l + d) }) := by
 obtain ⟨e1, e2, e3⟩ := v.ent0 hR hi
 unfold walk0
 rw [if_neg (by rw [e1]; simp), e2, if_neg (by rw [b0, b1]; simp), if_neg (by rw [b1]; simp)]
 unfold leafD allD
 rw [s1, s2, if_neg (by rw [show decide ((0 : Nat) = 1) = false from rfl, ha]; simp), if_neg (by simp), e3, hd, hR, show 2147483648 + (8192 + i0 * 4) - 2147483648 = 8192 + i0 * 4 by omega]
 rfl
theorem Vw.leafF (v : Vw C R i1 i0 off r l m) {B : BusS} (hR : B.ram = R) {S : CsrS} (s1 : S.sum = 0) (s2 : S.mxr = 0) {va k : Nat} (hi : va / 4096 % 1024 = i0) (b : bitN l 0 = false \/ (bitN l 0 = true /\ bitN l 1 = true /\ allB 1 k (bitN l 4) (bitN l 1) (bitN l 2) (bitN l 3) false false = false)) : walk0 B S 2147491840 va k 1 = ((0, 1), B) := by
 obtain ⟨e1, e2, e3⟩ := v.ent0 hR hi
 unfold walk0
 rw [if_neg (by rw [e1]; simp), e2]
 rcases b with b | ⟨b0, b1, ha⟩
 . rw [if_pos (.inl b)]
 . rw [if_neg (by rw [b0, b1]; simp), if_neg (by rw [b1]; simp)]
   unfold leafD allD
   rw [s1, s2, if_pos (by rw [show decide ((0 : Nat) = 1) = false from rfl]; exact ha)]
theorem Vw.great (v : Vw C R i1 i0 off r l m) {B : BusS} (hR : B.ram = R) {S : CsrS} (s1 : S.sum = 0) (s2 : S.mxr = 0) {va k : Nat} (hi : va / 4194304 = i1) (b0 : bitN r 0 = true) (b1 : bitN r 1 = true) (hz : r / 1024 % 1024 = 0) (ha : allB 1 k (bitN r 4) (bitN r 1) (bitN r 2) (bitN r 3) false false = true) (d : Nat) (hd : adB (bitN r 6) (bitN r 7) k = d) :
 walk1 B S 2147487744 va k 1 = ((r / 1024 * 4096 + va % 4194304, 0), if d = 0 then B else { B with ram := stN R (4096 + i1 * 4) 4 (r + d) }) := by
 obtain ⟨e1, e2, e3⟩ := v.ent1 hR hi
 unfold walk1
 rw [if_neg (by rw [e1]; simp), e2, if_neg (by rw [b0, b1]; simp), if_neg (by rw [b1]; simp)]
 unfold leafD allD
 rw [s1, s2, if_neg (by rw [show decide ((0 : Nat) = 1) = false from rfl, ha]; simp), if_neg (by simp [hz]), e3, hd, hR, show 2147483648 + (4096 + i1 * 4) - 2147483648 = 4096 + i1 * 4 by omega]
 rfl
theorem Vw.greatF (v : Vw C R i1 i0 off r l m) {B : BusS} (hR : B.ram = R) {S : CsrS} (s1 : S.sum = 0) (s2 : S.mxr = 0) {va k : Nat} (hi : va / 4194304 = i1) (b0 : bitN r 0 = true) (b1 : bitN r 1 = true) (hz : ¬ r / 1024 % 1024 = 0) : walk1 B S 2147487744 va k 1 = ((0, 1), B) := by
 obtain ⟨e1, e2, e3⟩ := v.ent1 hR hi
 unfold walk1
 rw [if_neg (by rw [e1]; simp), e2, if_neg (by rw [b0, b1]; simp), if_neg (by rw [b1]; simp)]
 unfold leafD
 split
 . rfl
 . rw [if_pos ⟨rfl, hz⟩]
end
section
variable {R : List UInt8} {X : XS} {i1 i0 off r l m V va : Nat}
def mapC : List UInt8 := [151, 15, 0, 0, 131, 160, 15, 64, 3, 161, 79, 64, 3, 162, 143, 64, 131, 162, 207, 64, 19, 131, 15, 8, 115, 16, 83, 48, 115, 16, 2, 24, 115, 144, 2, 48, 131, 33, 1, 0, 35, 32, 17, 0, 131, 33, 1, 0, 111, 0, 0, 0]
def croC : List UInt8 := [151, 15, 0, 0, 131, 160, 15, 64, 3, 161, 79, 64, 3, 162, 143, 64, 131, 162, 207, 64, 19, 131, 15, 8, 115, 16, 83, 48, 115, 16, 2, 24, 115, 144, 2, 48, 35, 32, 17, 0, 111, 0, 0, 0]
def mL (x1 x2 x3 x4 x5 x6 x31 : Nat) : List Nat := [0, x1, x2, x3, x4, x5, x6, 0, 0, 0, 0, 0, 0, 0, 0, 0, 0, 0, 0, 0, 0, 0, 0, 0, 0, 0, 0, 0, 0, 0, 0, x31]
def mC (st tv epc cau val sp : Nat) : XCsr := ⟨st, 0, 0, 0, 0, tv, 0, 0, 0, epc, cau, val, 0, 0, 0, 0, 0, 0, sp, 0, 0, 0, 0⟩
structure In0 (C R : List UInt8) (i1 i0 off r l V va : Nat) : Prop where
 v : Vw C R i1 i0 off r l 0
 a0 : ldN ((R.drop 1024).take 4) = V
 a1 : ldN ((R.drop 1028).take 4) = va
 a2 : ldN ((R.drop 1032).take 4) = 2148007937
 a3 : ldN ((R.drop 1036).take 4) = 133120
structure In (C R : List UInt8) (i1 i0 off r l V va : Nat) : Prop where
 i : In0 C R i1 i0 off r l V va
 z : ∀ q, 1040 <= q -> q + 4 <= 16384 -> (q + 4 <= 4096 + i1 * 4 \/ 4096 + i1 * 4 + 4 <= q) -> (q + 4 <= 8192 + i0 * 4 \/ 8192 + i0 * 4 + 4 <= q) -> ldN ((R.drop q).take 4) = 0
 by' : ∀ j, j < 132 -> R.getD j 0 = (mpR C).getD j 0
variable {R : List UInt8} {X : XS} {i1 i0 off r l m V va : Nat}
set_option maxRecDepth 100000 in
theorem map_setup (h0 : Qt X R (List.replicate 32 0) 0 csr0) (hi : In0 mapC R i1 i0 off r l V va) : ∃ Y, Qt Y R (mL V va 0 2148007937 133120 2147483776 2147483648) 36 (mC 133120 2147483776 0 0 0 2148007937) /\ ∀ n k, runG (n + 9) k X = runG n (k + 9) Y := zq382
set_option maxRecDepth 100000 in
theorem cro_setup (h0 : Qt X R (List.replicate 32 0) 0 csr0) (hi : In0 croC R i1 i0 off r l V va) : ∃ Y, Qt Y R (mL V va 0 2148007937 133120 2147483776 2147483648) 36 (mC 133120 2147483776 0 0 0 2148007937) /\ ∀ n k, runG (n + 9) k X = runG n (k + 9) Y := zq382
set_option maxRecDepth 100000 in
theorem map_0 (h0 : Qt X R (List.replicate 32 0) 0 csr0) (hi : In0 mapC R i1 i0 off 536872961 536873991 V va) (hV : V < 4294967296) (hva : va < 4294967296) (q1 : va / 4194304 = i1) (q0 : va / 4096 % 1024 = i0) (qo : va % 4096 = off) : ∃ Y, (runG 20 0 X).2 = Y /\ Vw mapC Y.b.ram i1 i0 off 536872961 536874183 V /\ Y.c.mcause = 0 /\ Y.x.getD 3 0 = V := by
 obtain ⟨X9, h9, e9⟩ := map_setup h0 hi
 have g : Pg (mC 133120 2147483776 0 0 0 2148007937) := ⟨rfl, rfl⟩
 have w0 : wordN ((va : Int) + 0) = va := zq51
 have bo := hi.v.bo
 have cd := hi.v.code
 have v9 := hi.v
 obtain ⟨t9, s9, u9⟩ := h9.on g va 1 (.inl rfl)
 have k9 : trD X9.b (xC X9) va 1 = ((2147483648 + (12288 + off), 0), { X9.b with ram := stN R (8192 + i0 * 4) 4 536874055 }) := by
  rw [t9, v9.ptr h9.ram q1, v9.leaf h9.ram s9 u9 q0 (by decide) (by decide) (by decide) 64 (by decide), if_neg (by decide), qo, show 536873991 / 1024 * 4096 + off = 2147483648 + (12288 + off) by omega]
 have v10 := v9.setL 536874055 (by decide)
 obtain ⟨X10, h10, e10⟩ := (h9.tload ⟨13, 3, 2, 0, 0, 4⟩ ((cd 36 (by decide)).trans (by kernel_rfl)) va (12288 + off) (by decide) (by omega) w0 _ k9 rfl v10.len (by omega) 0 v10.wm).cast (mL V va 0 2148007937 133120 2147483776 2147483648) (by kernel_rfl)
 generalize stN R (8192 + i0 * 4) 4 536874055 = R1 at *
 obtain ⟨t10, s10, u10⟩ := h10.on g va 2 (.inr rfl)
 have k10 : trD X10.b (xC X10) va 2 = ((2147483648 + (12288 + off), 0), { X10.b with ram := stN R1 (8192 + i0 * 4) 4 536874183 }) := by
  rw [t10, v10.ptr h10.ram q1, v10.leaf h10.ram s10 u10 q0 (by decide) (by decide) (by decide) 128 (by decide), if_neg (by decide), qo, show 536874055 / 1024 * 4096 + off = 2147483648 + (12288 + off) by omega]
 have v11' := v10.setL 536874183 (by decide)
 have v11 := v11'.setM V hV
 obtain ⟨X11, h11, e11⟩ := h10.tstore ⟨18, 0, 2, 1, 0, 4⟩ ((v10.code 40 (by decide)).trans (by kernel_rfl)) va (12288 + off) (by decide) (by omega) w0 _ k10 rfl v11'.len (by omega) V (by kernel_rfl)
 generalize stN (stN R1 (8192 + i0 * 4) 4 536874183) (12288 + off) 4 V = R2 at *
 obtain ⟨t11, s11, u11⟩ := h11.on g va 1 (.inl rfl)
 have k11 : trD X11.b (xC X11) va 1 = ((2147483648 + (12288 + off), 0), X11.b) := by
  rw [t11, v11.ptr h11.ram q1, v11.leaf h11.ram s11 u11 q0 (by decide) (by decide) (by decide) 0 (by decide), if_pos rfl, qo, show 536874183 / 1024 * 4096 + off = 2147483648 + (12288 + off) by omega]
 exact zq383
set_option maxRecDepth 100000 in
theorem map_1 (h0 : Qt X R (List.replicate 32 0) 0 csr0) (hi : In0 mapC R i1 i0 off 536870919 536873991 V va) (hV : V < 4294967296) (hva : va < 4294967296) (q1 : va / 4194304 = i1) (qo : va % 4194304 = 12288 + off) : ∃ Y, (runG 20 0 X).2 = Y /\ Vw mapC Y.b.ram i1 i0 off 536871111 536873991 V /\ Y.c.mcause = 0 /\ Y.x.getD 3 0 = V := by
 obtain ⟨X9, h9, e9⟩ := map_setup h0 hi
 have g : Pg (mC 133120 2147483776 0 0 0 2148007937) := ⟨rfl, rfl⟩
 have w0 : wordN ((va : Int) + 0) = va := zq51
 have bo := hi.v.bo
 have cd := hi.v.code
 have v9 := hi.v
 have qg : va % 4096 = off := by omega
 obtain ⟨t9, s9, u9⟩ := h9.on g va 1 (.inl rfl)
 have k9 : trD X9.b (xC X9) va 1 = ((2147483648 + (12288 + off), 0), { X9.b with ram := stN R (4096 + i1 * 4) 4 536870983 }) := by
  rw [t9, v9.great h9.ram s9 u9 q1 (by decide) (by decide) (by decide) (by decide) 64 (by decide), if_neg (by decide), qo]
 have v10 := v9.setR 536870983 (by decide)
 obtain ⟨X10, h10, e10⟩ := (h9.tload ⟨13, 3, 2, 0, 0, 4⟩ ((cd 36 (by decide)).trans (by kernel_rfl)) va (12288 + off) (by decide) (by omega) w0 _ k9 rfl v10.len (by omega) 0 v10.wm).cast (mL V va 0 2148007937 133120 2147483776 2147483648) (by kernel_rfl)
 generalize stN R (4096 + i1 * 4) 4 536870983 = R1 at *
 obtain ⟨t10, s10, u10⟩ := h10.on g va 2 (.inr rfl)
 have k10 : trD X10.b (xC X10) va 2 = ((2147483648 + (12288 + off), 0), { X10.b with ram := stN R1 (4096 + i1 * 4) 4 536871111 }) := by
  rw [t10, v10.great h10.ram s10 u10 q1 (by decide) (by decide) (by decide) (by decide) 128 (by decide), if_neg (by decide), qo]
 have v11' := v10.setR 536871111 (by decide)
 have v11 := v11'.setM V hV
 obtain ⟨X11, h11, e11⟩ := h10.tstore ⟨18, 0, 2, 1, 0, 4⟩ ((v10.code 40 (by decide)).trans (by kernel_rfl)) va (12288 + off) (by decide) (by omega) w0 _ k10 rfl v11'.len (by omega) V (by kernel_rfl)
 generalize stN (stN R1 (4096 + i1 * 4) 4 536871111) (12288 + off) 4 V = R2 at *
 obtain ⟨t11, s11, u11⟩ := h11.on g va 1 (.inl rfl)
 have k11 : trD X11.b (xC X11) va 1 = ((2147483648 + (12288 + off), 0), X11.b) := by
  rw [t11, v11.great h11.ram s11 u11 q1 (by decide) (by decide) (by decide) (by decide) 0 (by decide), if_pos rfl, qo]
 exact zq383
set_option maxRecDepth 100000 in
theorem map_2 (h0 : Qt X R (List.replicate 32 0) 0 csr0) (hi : In0 mapC R i1 i0 off 536872961 536873990 V va) (hV : V < 4294967296) (hva : va < 4294967296) (q1 : va / 4194304 = i1) (q0 : va / 4096 % 1024 = i0) (qo : va % 4096 = off) : ∃ Y, (runG 20 0 X).2 = Y /\ Vw mapC Y.b.ram i1 i0 off 536872961 536873990 0 /\ Y.c.mcause = 13 /\ Y.c.mtval = va := by
 obtain ⟨X9, h9, e9⟩ := map_setup h0 hi
 have g : Pg (mC 133120 2147483776 0 0 0 2148007937) := ⟨rfl, rfl⟩
 have w0 : wordN ((va : Int) + 0) = va := zq51
 have bo := hi.v.bo
 have cd := hi.v.code
 have v9 := hi.v
 obtain ⟨t9, s9, u9⟩ := h9.on g va 1 (.inl rfl)
 have k9 : trD X9.b (xC X9) va 1 = ((0, 1), X9.b) := by
  rw [t9, v9.ptr h9.ram q1, v9.leafF h9.ram s9 u9 q0 (.inl (by decide))]
 exact zq384
set_option maxRecDepth 100000 in
theorem map_4 (h0 : Qt X R (List.replicate 32 0) 0 csr0) (hi : In0 mapC R i1 i0 off 536872961 536874007 V va) (hV : V < 4294967296) (hva : va < 4294967296) (q1 : va / 4194304 = i1) (q0 : va / 4096 % 1024 = i0) (qo : va % 4096 = off) : ∃ Y, (runG 20 0 X).2 = Y /\ Vw mapC Y.b.ram i1 i0 off 536872961 536874007 0 /\ Y.c.mcause = 13 /\ Y.c.mtval = va := by
 obtain ⟨X9, h9, e9⟩ := map_setup h0 hi
 have g : Pg (mC 133120 2147483776 0 0 0 2148007937) := ⟨rfl, rfl⟩
 have w0 : wordN ((va : Int) + 0) = va := zq51
 have bo := hi.v.bo
 have cd := hi.v.code
 have v9 := hi.v
 obtain ⟨t9, s9, u9⟩ := h9.on g va 1 (.inl rfl)
 have k9 : trD X9.b (xC X9) va 1 = ((0, 1), X9.b) := by
  rw [t9, v9.ptr h9.ram q1, v9.leafF h9.ram s9 u9 q0 (.inr (by decide))]
 exact zq384
set_option maxRecDepth 100000 in
theorem map_5 (h0 : Qt X R (List.replicate 32 0) 0 csr0) (hi : In0 mapC R i1 i0 off 536871943 536873991 V va) (hV : V < 4294967296) (hva : va < 4294967296) (q1 : va / 4194304 = i1) (qo : va % 4096 = off) : ∃ Y, (runG 20 0 X).2 = Y /\ Vw mapC Y.b.ram i1 i0 off 536871943 536873991 0 /\ Y.c.mcause = 13 /\ Y.c.mtval = va := by
 obtain ⟨X9, h9, e9⟩ := map_setup h0 hi
 have g : Pg (mC 133120 2147483776 0 0 0 2148007937) := ⟨rfl, rfl⟩
 have w0 : wordN ((va : Int) + 0) = va := zq51
 have bo := hi.v.bo
 have cd := hi.v.code
 have v9 := hi.v
 obtain ⟨t9, s9, u9⟩ := h9.on g va 1 (.inl rfl)
 have k9 : trD X9.b (xC X9) va 1 = ((0, 1), X9.b) := by
  rw [t9, v9.greatF h9.ram s9 u9 q1 (by decide) (by decide) (by decide)]
 exact zq384
set_option maxRecDepth 100000 in
theorem map_3 (h0 : Qt X R (List.replicate 32 0) 0 csr0) (hi : In0 mapC R i1 i0 off 536872961 536873987 V va) (hV : V < 4294967296) (hva : va < 4294967296) (q1 : va / 4194304 = i1) (q0 : va / 4096 % 1024 = i0) (qo : va % 4096 = off) : ∃ Y, (runG 20 0 X).2 = Y /\ Vw mapC Y.b.ram i1 i0 off 536872961 536874051 0 /\ Y.c.mcause = 15 /\ Y.c.mtval = va := by
 obtain ⟨X9, h9, e9⟩ := map_setup h0 hi
 have g : Pg (mC 133120 2147483776 0 0 0 2148007937) := ⟨rfl, rfl⟩
 have w0 : wordN ((va : Int) + 0) = va := zq51
 have bo := hi.v.bo
 have cd := hi.v.code
 have v9 := hi.v
 obtain ⟨t9, s9, u9⟩ := h9.on g va 1 (.inl rfl)
 have k9 : trD X9.b (xC X9) va 1 = ((2147483648 + (12288 + off), 0), { X9.b with ram := stN R (8192 + i0 * 4) 4 536874051 }) := by
  rw [t9, v9.ptr h9.ram q1, v9.leaf h9.ram s9 u9 q0 (by decide) (by decide) (by decide) 64 (by decide), if_neg (by decide), qo, show 536873987 / 1024 * 4096 + off = 2147483648 + (12288 + off) by omega]
 have v10 := v9.setL 536874051 (by decide)
 obtain ⟨X10, h10, e10⟩ := (h9.tload ⟨13, 3, 2, 0, 0, 4⟩ ((cd 36 (by decide)).trans (by kernel_rfl)) va (12288 + off) (by decide) (by omega) w0 _ k9 rfl v10.len (by omega) 0 v10.wm).cast (mL V va 0 2148007937 133120 2147483776 2147483648) (by kernel_rfl)
 generalize stN R (8192 + i0 * 4) 4 536874051 = R1 at *
 obtain ⟨t10, s10, u10⟩ := h10.on g va 2 (.inr rfl)
 have k10 : trD X10.b (xC X10) va 2 = ((0, 1), X10.b) := by
  rw [t10, v10.ptr h10.ram q1, v10.leafF h10.ram s10 u10 q0 (.inr (by decide))]
 obtain ⟨X11, h11, e11⟩ := h10.tfault (p' := 128) ⟨18, 0, 2, 1, 0, 4⟩ ((v10.code 40 (by decide)).trans (by kernel_rfl)) va (by decide) (by omega) w0 k10 15 rfl (by decide) (by kernel_rfl) (mC 137216 2147483776 2147483688 15 va 2148007937) (by kernel_rfl) rfl
 obtain ⟨Y, ry, hy⟩ := Qt.spin ((v10.code 128 (by decide)).trans (by kernel_rfl)) (by decide) 9 10 X11 h11
 have e := (e9 11 0).trans ((e10 10 9).trans ((e11 9 10).trans ry))
 exact ⟨Y, by rw [e], by rw [hy.ram]; exact v10, (congrArg XCsr.mcause hy.c : (cz Y.c).mcause = 15), (congrArg XCsr.mtval hy.c : (cz Y.c).mtval = va)⟩
end
def mapR (C : List UInt8) (i1 i0 : Nat) (v va root low : Int) : List UInt8 :=
 laidB (laidB (laidB (laidB (laidB (List.replicate 16384 0) 0 C) 128 (leA 111 4).data.toList) 1024 (((leA v 4).data.toList ++ (leA va 4).data.toList) ++ (leA 2148007937 4).data.toList ++ (leA 133120 4).data.toList)) (4096 + i1 * 4) (leA root 4).data.toList) (8192 + i0 * 4) (leA low 4).data.toList
theorem ld_zero (q : Nat) (h : q + 4 <= 16384) : ldN (((List.replicate 16384 (0 : UInt8)).drop q).take 4) = 0 := by
 rw [ld4_eq _ _ (by rw [List.length_replicate]; exact h)]
 have e : ∀ j, (List.replicate 16384 (0 : UInt8)).getD j 0 = 0 := fun j => by
  rw [List.getD_eq_getElem?_getD, List.getElem?_replicate]; split <;> rfl
 rw [e, e, e, e]; rfl
theorem le111 : (leA 111 4).data.toList = [111, 0, 0, 0] := by rw [le_data]; rfl
theorem map_len (C : List UInt8) (i1 i0 : Nat) (v va root low : Int) : (mapR C i1 i0 v va root low).length = 16384 := by
 unfold mapR
 rw [laidB_length, laidB_length, laidB_length, laidB_length, laidB_length, List.length_replicate]
theorem map_in (C : List UInt8) (hC : C.length <= 128) (i1 i0 off : Nat) (h1 : i1 < 1024) (h0 : i0 < 1024) (ho : off + 4 <= 4096) (v va root low : Int) (V A r l : Nat) (ev : wordN v = V) (ea : wordN va = A) (er : wordN root = r) (el : wordN low = l) : In C (mapR C i1 i0 v va root low) i1 i0 off r l V A := by
 have k1 := le_len v
 have k2 := le_len va
 have k3 := le_len 2148007937
 have k4 := le_len 133120
 have k5 := le_len root
 have k6 := le_len low
 have k7 := le_len 111
 have hl := map_len C i1 i0 v va root low
 obtain ⟨R0, hR0⟩ := zn1 (laidB (laidB (List.replicate 16384 0) 0 C) 128 (leA 111 4).data.toList)
 have z0 : R0.length = 16384 := by rw [hR0, laidB_length, laidB_length, List.length_replicate]
 have m0 : R0 = mpR C := by rw [hR0, le111]; rfl
 have y0 : ∀ q, 1024 <= q -> q + 4 <= 16384 -> ldN ((R0.drop q).take 4) = 0 := fun q h h' => by
  rw [hR0, ld_laid_far _ _ _ _ (by rw [k7, laidB_length, List.length_replicate]; omega) (by rw [laidB_length, List.length_replicate]; exact h') (by rw [k7]; omega), ld_laid_far _ _ _ _ (by rw [List.length_replicate]; omega) (by rw [List.length_replicate]; exact h') (by omega), ld_zero q h']
 -- the four words at 1024
 obtain ⟨R1, hR1⟩ := zn1 (laidB (laidB (laidB (laidB R0 1024 (leA v 4).data.toList) 1028 (leA va 4).data.toList) 1032 (leA 2148007937 4).data.toList) 1036 (leA 133120 4).data.toList)
 have z1 : R1.length = 16384 := by rw [hR1, laidB_length, laidB_length, laidB_length, laidB_length, z0]
 have e1 : laidB R0 1024 (((leA v 4).data.toList ++ (leA va 4).data.toList) ++ (leA 2148007937 4).data.toList ++ (leA 133120 4).data.toList) = R1 := by
  rw [hR1, laidB_app, laidB_app, laidB_app, List.length_append, List.length_append, List.length_append, k1, k2, k3]
 have w0 : ldN ((R1.drop 1024).take 4) = V := by
  rw [hR1, ld_laid_far _ _ _ _ (by rw [k4, laidB_length, laidB_length, laidB_length, z0]; omega) (by rw [laidB_length, laidB_length, laidB_length, z0]; omega) (by omega), ld_laid_far _ _ _ _ (by rw [k3, laidB_length, laidB_length, z0]; omega) (by rw [laidB_length, laidB_length, z0]; omega) (by omega), ld_laid_far _ _ _ _ (by rw [k2, laidB_length, z0]; omega) (by rw [laidB_length, z0]; omega) (by omega), ld_laid _ _ _ (by rw [z0]; omega), ev]
 have w1 : ldN ((R1.drop 1028).take 4) = A := by
  rw [hR1, ld_laid_far _ _ _ _ (by rw [k4, laidB_length, laidB_length, laidB_length, z0]; omega) (by rw [laidB_length, laidB_length, laidB_length, z0]; omega) (by omega), ld_laid_far _ _ _ _ (by rw [k3, laidB_length, laidB_length, z0]; omega) (by rw [laidB_length, laidB_length, z0]; omega) (by omega), ld_laid _ _ _ (by rw [laidB_length, z0]; omega), ea]
 have w2 : ldN ((R1.drop 1032).take 4) = 2148007937 := by
  rw [hR1, ld_laid_far _ _ _ _ (by rw [k4, laidB_length, laidB_length, laidB_length, z0]; omega) (by rw [laidB_length, laidB_length, laidB_length, z0]; omega) (by omega), ld_laid _ _ _ (by rw [laidB_length, laidB_length, z0]; omega)]; rfl
 have w3 : ldN ((R1.drop 1036).take 4) = 133120 := by
  rw [hR1, ld_laid _ _ _ (by rw [laidB_length, laidB_length, laidB_length, z0]; omega)]; rfl
 have y1 : ∀ q, 1040 <= q -> q + 4 <= 16384 -> ldN ((R1.drop q).take 4) = 0 := fun q h h' => by
  rw [hR1, ld_laid_far _ _ _ _ (by rw [k4, laidB_length, laidB_length, laidB_length, z0]; omega) (by rw [laidB_length, laidB_length, laidB_length, z0]; omega) (by omega), ld_laid_far _ _ _ _ (by rw [k3, laidB_length, laidB_length, z0]; omega) (by rw [laidB_length, laidB_length, z0]; omega) (by omega), ld_laid_far _ _ _ _ (by rw [k2, laidB_length, z0]; omega) (by rw [laidB_length, z0]; omega) (by omega), ld_laid_far _ _ _ _ (by rw [k1, z0]; omega) (by rw [z0]; omega) (by omega), y0 q (by omega) h']
 have c1 : ∀ p, p + 4 <= 132 -> cod R1 p = cod (mpR C) p := fun p hp => by
  rw [<- m0, hR1, cod_laid_far _ _ _ _ (by rw [k4, laidB_length, laidB_length, laidB_length, z0]; omega) (by rw [laidB_length, laidB_length, laidB_length, z0]; omega) (by omega), cod_laid_far _ _ _ _ (by rw [k3, laidB_length, laidB_length, z0]; omega) (by rw [laidB_length, laidB_length, z0]; omega) (by omega), cod_laid_far _ _ _ _ (by rw [k2, laidB_length, z0]; omega) (by rw [laidB_length, z0]; omega) (by omega), cod_laid_far _ _ _ _ (by rw [k1, z0]; omega) (by rw [z0]; omega) (by omega)]
 have em : mapR C i1 i0 v va root low = laidB (laidB R1 (4096 + i1 * 4) (leA root 4).data.toList) (8192 + i0 * 4) (leA low 4).data.toList := by
  unfold mapR; rw [<- hR0, e1]
 rw [em] at hl |-
 have f : ∀ q, q + 4 <= 16384 -> (q + 4 <= 4096 + i1 * 4 \/ 4096 + i1 * 4 + 4 <= q) -> (q + 4 <= 8192 + i0 * 4 \/ 8192 + i0 * 4 + 4 <= q) -> ldN (((laidB (laidB R1 (4096 + i1 * 4) (leA root 4).data.toList) (8192 + i0 * 4) (leA low 4).data.toList).drop q).take 4) = ldN ((R1.drop q).take 4) := fun q a b d => by
  rw [ld_laid_far _ _ _ _ (by rw [k6, laidB_length, z1]; omega) (by rw [laidB_length, z1]; exact a) (by rw [k6]; exact d), ld_laid_far _ _ _ _ (by rw [k5, z1]; omega) (by rw [z1]; exact a) (by rw [k5]; exact b)]
 refine ⟨⟨⟨hl, fun p hp => ?_, h1, h0, ho, ?_, ?_, ?_⟩, ?_, ?_, ?_, ?_⟩, fun q a b d e => ?_, fun j hj => ?_⟩
 . rw [cod_laid_far _ _ _ _ (by rw [k6, laidB_length, z1]; omega) (by rw [laidB_length, z1]; omega) (by omega), cod_laid_far _ _ _ _ (by rw [k5, z1]; omega) (by rw [z1]; omega) (by omega), c1 p hp]
 . rw [ld_laid_far _ _ _ _ (by rw [k6, laidB_length, z1]; omega) (by rw [laidB_length, z1]; omega) (by omega), ld_laid _ _ _ (by rw [z1]; omega), er]
 . rw [ld_laid _ _ _ (by rw [laidB_length, z1]; omega), el]
 . rw [f _ (by omega) (by omega) (by omega), y1 _ (by omega) (by omega)]
 . rw [f _ (by omega) (by omega) (by omega), w0]
 . rw [f _ (by omega) (by omega) (by omega), w1]
 . rw [f _ (by omega) (by omega) (by omega), w2]
 . rw [f _ (by omega) (by omega) (by omega), w3]
 . rw [f q b d e, y1 q a b]
 . rw [laidB_getD _ _ _ _ (by rw [k6, laidB_length, z1]; omega), if_neg (by omega), laidB_getD _ _ _ _ (by rw [k5, z1]; omega), if_neg (by omega), hR1, laidB_getD _ _ _ _ (by rw [k4, laidB_length, laidB_length, laidB_length, z0]; omega), if_neg (by omega), laidB_getD _ _ _ _ (by rw [k3, laidB_length, laidB_length, z0]; omega), if_neg (by omega), laidB_getD _ _ _ _ (by rw [k2, laidB_length, z0]; omega), if_neg (by omega), laidB_getD _ _ _ _ (by rw [k1, z0]; omega), if_neg (by omega), m0]
theorem qt_load {X : XS} {R : List UInt8} {x : List Nat} {p : Nat} {c : XCsr} (h : Qt X R x p c) (off : Nat) (s : ByteArray) : Qt (loadX X off s) (laidB R off s.data.toList) x p c := by
 unfold loadX urwX
 split
 . exact zq385
 . exact zq385
def eB (rx tx : List UInt8) (l : Bool) : BusS := { ram := [], msip := 0, time := 0, timeh := 0, cmp := 4294967295, cmph := 4294967295, enable := 0, scratch := 0, lost := l, rx := ⟨rx.toArray⟩, tx := ⟨tx.toArray⟩ }
section
variable {R : List UInt8} {X : XS} {rx tx : List UInt8} {l : Bool} {x2 x3 x4 x5 x6 : Nat}
def eL (x2 x3 x4 x5 x6 : Nat) : List Nat := [0, 268435456, x2, x3, x4, x5, x6, 0, 0, 0, 0, 0, 0, 0, 0, 0, 0, 0, 0, 0, 0, 0, 0, 0, 0, 0, 0, 0, 0, 0, 0, 0]
theorem qt (b : BusS) : Cm csr0 b := Cm.of csr0 b rfl rfl
variable {R : List UInt8} {X : XS} {rx tx : List UInt8} {l : Bool} {x2 x3 x4 x5 x6 : Nat}
end
end Go.Proofs.YtmlgonbhoknoiabGreatDoor
