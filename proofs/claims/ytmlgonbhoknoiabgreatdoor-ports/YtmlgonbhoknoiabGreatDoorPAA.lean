import Derived.Test.YtmlgonbhoknoiabGreatDoorBAQ
import Derived.Test.YtmlgonbhoknoiabGreatDoorBAU
import Derived.Test.YtmlgonbhoknoiabGreatDoorPQ
set_option maxHeartbeats 8000000
set_option linter.all false
namespace Go.Proofs.YtmlgonbhoknoiabGreatDoor
open Go.RowKit Go.Proofs.Tryz
section
attribute [local go_sem ↓] Go.wp_at_zero Go.wp_at_succ
theorem XAt.c10 {w mb rb X} (h : XAt w mb rb X) : w.cell? ⟨mb, 10, none⟩ = some (.int .i64 (X.x.getD 9 0)) := h.cell 10 (by omega)
set_option maxRecDepth 100000 in
theorem k_forms (mb rb : Nat) (a b : Int) (w : World) (hw : Hid (Mx w mb rb)) : Calls prog 99 #[.pointer (some ⟨mb, 0, none⟩), .int .i64 a, .int .i64 b] w fun o w' => BoolR o /\ w' = w := by
 have RG := hide1 (fun i => k_reg mb rb i w hw)
 go_enter func99, ntmps99
 go_wp2_with (first | (go_at_call 91; refine (RG.out _).mono ?_; rintro o wq ⟨⟨v, h0, h1, rfl⟩, hwq⟩; rw [hwq]; clear hwq wq))
 all_goals
  go_ret
  exact ⟨⟨_, rfl⟩, rfl⟩
end
theorem i_EncW (a0 a1 a2 a3 a4 a5 : Int) (w : World) : Calls prog 87 #[.agg #[.int .i64 a0, .int .i64 a1, .int .i64 a2, .int .i64 a3, .int .i64 a4, .int .i64 a5]] w fun e w' => (∃ v f : Int, e = .returned (.tuple #[.int .i64 v, .int .i64 f])) /\ Below w.heap.size w w' :=
 (i_Encode ⟨a0, a1, a2, a3, a4, a5⟩ w).mono (fun _ _ h => ⟨⟨_, _, h.1⟩, h.2⟩)
theorem i_DecW (x : Int) (w : World) : Calls prog 86 #[.int .i64 x] w fun e w' => (∃ a0 a1 a2 a3 a4 a5 f : Int, e = .returned (.tuple #[.agg #[.int .i64 a0, .int .i64 a1, .int .i64 a2, .int .i64 a3, .int .i64 a4, .int .i64 a5], .int .i64 f])) /\ Below w.heap.size w w' :=
 (i_Decode x w).mono (fun _ _ h => ⟨⟨_, _, _, _, _, _, _, h.1⟩, h.2⟩)
theorem a_TxtW (x : Int) (w : World) (ht : Tb w) : Calls prog 88 #[.int .i64 x] w fun e w' => (∃ (X : ByteArray) (f : Int), e = .returned (.tuple #[.string X, .int .i64 f])) /\ Below w.heap.size w w' :=
 (a_Text' x w (hide1 ht)).mono (fun _ _ h => ⟨⟨_, _, h.1⟩, h.2⟩)
theorem a_AsmW (s : ByteArray) (w : World) : Calls prog 67 #[.string s] w fun e w' => (∃ (X : ByteArray) (er n : Int), e = .returned (.tuple #[.string X, .int .i64 er, .int .i64 n])) /\ Below w.heap.size w w' :=
 (a_Assemble s w).mono (fun _ _ h => ⟨⟨_, _, _, h.1⟩, h.2⟩)
theorem u_LeW (v : Int) (n : Int) (hn : n = 2 \/ n = 4) (w : World) : Calls prog 89 #[.int .i64 v, .int .i64 n] w fun e w' => (∃ X : ByteArray, e = .returned (.string X)) /\ Below w.heap.size w w' := by
 rcases hn with rfl | rfl
 . exact (u_Le v 2 (by decide) w).mono (fun _ _ h => ⟨⟨_, h.1⟩, h.2⟩)
 . exact (u_Le v 4 (by decide) w).mono (fun _ _ h => ⟨⟨_, h.1⟩, h.2⟩)
theorem cells6 {w1 w2 : World} {a0 a1 a2 a3 a4 a5 : Value} {t : Nat} {n : Nat} (h : Below n (w1.alloc (.cells #[a0, a1, a2, a3, a4, a5] t)) w2) (hn : w1.heap.size < n) :
 w2.cell? ⟨w1.heap.size, 0, none⟩ = some a0 /\ w2.cell? ⟨w1.heap.size, 1, none⟩ = some a1 /\ w2.cell? ⟨w1.heap.size, 2, none⟩ = some a2 /\ w2.cell? ⟨w1.heap.size, 3, none⟩ = some a3 /\ w2.cell? ⟨w1.heap.size, 4, none⟩ = some a4 /\ w2.cell? ⟨w1.heap.size, 5, none⟩ = some a5 := by
 refine ⟨(h.cell (p := ⟨w1.heap.size, 0, none⟩) hn).trans ?_, (h.cell (p := ⟨w1.heap.size, 1, none⟩) hn).trans ?_, (h.cell (p := ⟨w1.heap.size, 2, none⟩) hn).trans ?_, (h.cell (p := ⟨w1.heap.size, 3, none⟩) hn).trans ?_, (h.cell (p := ⟨w1.heap.size, 4, none⟩) hn).trans ?_, (h.cell (p := ⟨w1.heap.size, 5, none⟩) hn).trans ?_⟩ <;> simp [go_sem]
theorem lt_of6 {w1 w2 : World} {o : Obj} {n : Nat} (h : Below n (w1.alloc o) w2) : w1.heap.size < w2.heap.size := by
 have := h.size
 simp at this; omega
def SomeB (e : Ending) : Prop := ∃ r, e = .returned (.bool r)
set_option maxRecDepth 100000 in
theorem k_wordW (x : Int) (w : World) (ht : Hid (Tb w)) :
 Calls prog 40 #[.int .i64 x] w fun e w' => SomeB e /\ Below w.heap.size w w' := by
 have hq := eql_ins
 have hn := neq_ins
 go_enter func40, ntmps40
 go_wp2_with fail
 refine (i_DecW x w).mono ?_
 rintro e w1 ⟨⟨i0, i1, i2, i3, i4, i5, er, rfl⟩, hb1⟩
 go_upto_if 71 with fail
 all_goals first
  | (go_ret; exact ⟨⟨_, rfl⟩, hb1.alloc hb1.size _⟩)
  | skip
 all_goals
  go_cut [] from 71 to 104 (fun wx => Hid (Below w.heap.size w wx))
  case first =>
   go_wp2_with (first | (go_at_call 87; refine (i_EncW _ _ _ _ _ _ _).mono ?_; rintro e w2 ⟨⟨v, f, rfl⟩, hb2⟩; have HB2 := hide1 ((hb1.alloc hb1.size _).trans (hb2.mono (hb1.alloc hb1.size _).size)); have HH2 := hide1 hb2; clear hb2) | (go_at_call 86; refine (i_DecW _ _).mono ?_; rintro e w3 ⟨⟨j0, j1, j2, j3, j4, j5, er2, rfl⟩, hb3⟩; have HB3 := hide1 (HB2.out.trans (hb3.mono HB2.out.size)); obtain ⟨y0, y1, y2, y3, y4, y5⟩ := cells6 (HH2.out.trans (hb3.mono HH2.out.size)) (by simp); have yl := lt_of6 (HH2.out.trans (hb3.mono HH2.out.size)); clear hb3 HB2 HH2))
   all_goals first
    | (go_meet; case rel => exact hide1 (hb1.alloc hb1.size _))
    | (go_ret; exact ⟨⟨_, rfl⟩, hb1.alloc hb1.size _⟩)
    | (go_ret; exact ⟨⟨_, rfl⟩, HB2.out⟩)
    | (go_meet; case rel => exact hide1 (HB3.out.alloc HB3.out.size _))
    | (go_ret; exact ⟨⟨_, rfl⟩, HB3.out.alloc HB3.out.size _⟩)
  case rest =>
   clear hb1 hq hn
   go_wp2_with (first | (go_at_call 88; refine (a_TxtW _ _ (ht.out.more hcut.out)).mono ?_; rintro e w2 ⟨⟨X, f, rfl⟩, hb2⟩; have HB2 := hide1 (hcut.out.trans (hb2.mono hcut.out.size)); clear hb2) | (go_at_call 67; refine (a_AsmW _ _).mono ?_; rintro e w3 ⟨⟨Y, f3, n3, rfl⟩, hb3⟩; have HB3 := hide1 (HB2.out.trans (hb3.mono HB2.out.size)); clear hb3) | (go_at_call 89; refine (u_LeW _ _ (by decide) _).mono ?_; rintro e w4 ⟨⟨Z, rfl⟩, hb4⟩; have HB4 := hide1 (HB3.out.trans (hb4.mono HB3.out.size)); clear hb4))
   all_goals
    go_ret
    exact ⟨⟨_, rfl⟩, HB4.out⟩
set_option maxRecDepth 100000 in
theorem k_goldW (k : Nat) (hk : k < 96) (w : World) (ht : Hid (Tb w)) :
 Calls prog 51 #[.int .i64 k] w fun e w' => SomeB e /\ Below w.heap.size w w' := by
 obtain ⟨W, X, hkn⟩ : ∃ (W : Int) (X : ByteArray), CS 100 #[.int .i64 k] (.tuple #[.int .i64 W, .string X]) w := ⟨_, _, k_known k hk w⟩
 have HK := hide1 hkn
 clear hkn
 go_enter func51, ntmps51
 go_wp2_with fail
 refine HK.out.mono ?_
 rintro e w1 ⟨rfl, hw1⟩
 rw [hw1]
 clear hw1 HK
 go_wp2_with (first | (go_at_call 88; refine (a_TxtW _ _ ht.out).mono ?_; rintro e w2 ⟨⟨X2, f, rfl⟩, hb2⟩; have HB2 := hide1 hb2; clear hb2) | (go_at_call 67; refine (a_AsmW _ _).mono ?_; rintro e w3 ⟨⟨Y, f3, n3, rfl⟩, hb3⟩; have HB3 := hide1 (HB2.out.trans (hb3.mono HB2.out.size)); clear hb3) | (go_at_call 89; refine (u_LeW _ _ (by decide) _).mono ?_; rintro e w4 ⟨⟨Z, rfl⟩, hb4⟩; have HB4 := hide1 (HB3.out.trans (hb4.mono HB3.out.size)); clear hb4))
 all_goals
  go_ret
  exact ⟨⟨_, rfl⟩, HB4.out⟩
section
variable {X : XS} {R : List UInt8} {x : List Nat} {p : Nat}
structure Qu (X : XS) (R : List UInt8) (x : List Nat) (p : Nat) : Prop where
 waits : X.waits = false
 mie : X.c.mie = 0
 mode : X.mode = 3
 ms : X.c.mstatus = 0
 ram : X.b.ram = R
 x : X.x = x
 pc : X.pc = 2147483648 + p
def rd2 (R : List UInt8) (p : Nat) : Nat := ldN ((R.drop p).take 2)
def cod (R : List UInt8) (p : Nat) : Nat × (Ins × Int) := (rd2 R p % 4, decodeD ((rd2 R p + rd2 R (p + 2) * 65536 : Nat) : Int))
def setL (x : List Nat) (d v : Nat) : List Nat := if d = 0 then x else x.set d v
variable {X : XS} {R : List UInt8} {x : List Nat} {p : Nat}
theorem Qu.wak (h : Qu X R x p) : wakX X = X := by
 have := h.waits
 cases X; simp only at this; subst this; rfl
theorem Qu.int (h : Qu X R x p) : intD X = -1 := by
 have e : askD X = 0 := by unfold askD; rw [h.mie]; simp
 unfold intD intB wout
 rw [e]; simp
theorem Qu.tr (h : Qu X R x p) (va k : Nat) : trD X.b (xC X) va k = ((va, 0), X.b) := by
 have e : actsD (xC X) k = 3 := by
  unfold actsD xC
  simp only [h.ms, h.mode]
  repeat' split
  all_goals first | rfl | (next q => simp at q)
 unfold trD pgD
 rw [e]; rfl
theorem Qu.half (h : Qu X R x p) (q : Nat) (hq : q + 2 <= R.length) : halfD X.b (xC X) (2147483648 + q) = ((rd2 R q, 0), X.b) := by
 unfold halfD halfP
 rw [h.tr]
 have e : holdsD ((2147483648 + q : Nat) : Int) 2 X.b.ram.length = true := by unfold holdsD; rw [h.ram]; simp; omega
 simp only [e, if_true]
 unfold rdRam rd2
 rw [h.ram, show 2147483648 + q - 2147483648 = q by omega]
theorem Qu.fetch (h : Qu X R x p) (hp : p + 4 <= R.length) (hl : R.length <= 65536) (h3 : rd2 R p % 4 = 3) : fetchD X.b (xC X) X.pc = (⟨rd2 R p + rd2 R (p + 2) * 65536, 0, 0⟩, X.b) := by
 unfold fetchD
 rw [h.pc, show (2147483648 + p + 2) % 4294967296 = 2147483648 + (p + 2) by omega, h.half p (by omega)]
 simp only [h3, if_true]
 rw [h.half (p + 2) (by omega)]
 simp only [if_true]
theorem Qu.step (h : Qu X R x p) (hp : p + 4 <= R.length) (hl : R.length <= 65536) (I : Ins) (h3 : rd2 R p % 4 = 3) (hd : decodeD ((rd2 R p + rd2 R (p + 2) * 65536 : Nat) : Int) = (I, 0)) (Y : XS) (hc : croX X (niOf I) (rd2 R p + rd2 R (p + 2) * 65536) = ((-1, 0), Y)) :
 ∃ m, stepX X = ((0, 0), cntX { Y with pc := npcD X (niOf I) } true m) := by
 have e : insX X = ((niOf I, (-1, 0)), { Y with pc := npcD X (niOf I) }) := by
  unfold insX
  rw [h.fetch hp hl h3]
  simp only [hd, if_true]
  have e : X.withB X.b = X := rfl
  rw [e]
  unfold insR
  rw [hc]; simp
 have e : actX X = ((0, 0, cwrD (niOf I)), { Y with pc := npcD X (niOf I) }) := by
  unfold actX
  rw [if_neg (by rw [h.waits]; simp), h.wak, if_pos h.int, e]
  unfold actE; simp
 unfold stepX
 rw [e]
 exact ⟨_, rfl⟩
structure Same (X Y : XS) : Prop where
 sc : Y.c.mscratch = X.c.mscratch
 rd : Y.resd = X.resd
 rv : Y.resv = X.resv
theorem Same.trans {X Y Z : XS} (h : Same X Y) (g : Same Y Z) : Same X Z := ⟨g.sc.trans h.sc, g.rd.trans h.rd, g.rv.trans h.rv⟩
theorem same_set (X : XS) (d v : Nat) : Same X (setXR X d v) := by unfold setXR; split <;> exact ⟨rfl, rfl, rfl⟩
def Goes (X : XS) (R : List UInt8) (x : List Nat) (p : Nat) : Prop := ∃ Y, Qu Y R x p /\ Same X Y /\ ∀ n r, runG (n + 1) r X = runG n (r + 1) Y
theorem Qu.goesT (h : Qu X R x p) (hp : p + 4 <= R.length) (hl : R.length <= 65536) (I : Ins) (hk : cod R p = (3, (I, 0))) {Y : XS} (hc : croX X (niOf I) (rd2 R p + rd2 R (p + 2) * 65536) = ((-1, 0), Y))
 {R' : List UInt8} {x' : List Nat} {p' : Nat} (hY : Qu { Y with pc := npcD X (niOf I) } R' x' p') : ∃ Z, Qu Z R' x' p' /\ Same Y Z /\ ∀ n r, runG (n + 1) r X = runG n (r + 1) Z := by
 obtain ⟨m, e⟩ := h.step hp hl I (congrArg Prod.fst hk) (congrArg Prod.snd hk) Y hc
 refine ⟨(stepX X).2, ?_, ?_, fun n r => ?_⟩
 . rw [e]; exact ⟨hY.waits, hY.mie, hY.mode, hY.ms, hY.ram, hY.x, hY.pc⟩
 . rw [e]; exact ⟨rfl, rfl, rfl⟩
 . show runG n (if (stepX X).1.1 = 0 then r + 1 else r) (stepX X).2 = _
   rw [e]; rfl
theorem Qu.goes (h : Qu X R x p) (hp : p + 4 <= R.length) (hl : R.length <= 65536) (I : Ins) (hk : cod R p = (3, (I, 0))) {Y : XS} (hc : croX X (niOf I) (rd2 R p + rd2 R (p + 2) * 65536) = ((-1, 0), Y)) (hs : Same X Y)
 {R' : List UInt8} {x' : List Nat} {p' : Nat} (hY : Qu { Y with pc := npcD X (niOf I) } R' x' p') : Goes X R' x' p' := by
 obtain ⟨Z, h1, h2, h3⟩ := h.goesT hp hl I hk hc hY
 exact ⟨Z, h1, hs.trans h2, h3⟩
theorem Goes.cast {x' : List Nat} (h : Goes X R x p) (e : x = x') : Goes X R x' p := e ▸ h
theorem Qu.set (h : Qu X R x p) (d v q : Nat) (p' : Nat) (hq : q = 2147483648 + p') : Qu { setXR X d v with pc := q } R (setL x d v) p' := by
 unfold setXR setL
 split
 . exact ⟨h.waits, h.mie, h.mode, h.ms, h.ram, h.x, hq⟩
 . exact ⟨h.waits, h.mie, h.mode, h.ms, h.ram, by show X.x.set d v = _; rw [h.x], hq⟩
def rsvL (p : Nat) (i : NI) (x : List Nat) : Nat :=
 if i.op = 1 then wordN (i.im * 4096) else if i.op = 2 then wordN (((2147483648 + p : Nat) : Int) + i.im * 4096)
 else if i.op <= 27 then alu i.op (x.getD i.rs1 0) (wordN i.im) else alu i.op (x.getD i.rs1 0) (x.getD i.rs2 0)
theorem Qu.alu (h : Qu X R x p) (hp : p + 4 <= R.length) (hl : R.length <= 65536) (I : Ins) (hk : cod R p = (3, (I, 0))) (ho : xresD I.op = true) (h34 : ¬ (I.op = 3 \/ I.op = 4)) (h4 : I.ln = 4) : Goes X R (setL x I.rd.toNat (rsvL p (niOf I) x)) (p + 4) := by
 have ho' := ho
 unfold xresD at ho'
 simp only [decide_eq_true_eq] at ho'
 have e1 : rsvD X (niOf I) = rsvL p (niOf I) x := by
  unfold rsvD rsvL
  rw [h.x, h.pc]
  have e : (niOf I).op = I.op := rfl
  rw [e, if_neg h34]
 have e2 : npcD X (niOf I) = 2147483648 + (p + 4) := by
  unfold npcD behD
  have e : (niOf I).op = I.op := rfl
  have e' : (niOf I).ln = 4 := zp0
  rw [e, e', if_neg (by omega), if_neg (by omega), if_neg (by omega), if_neg (by omega), h.pc]
  omega
 refine h.goes hp hl I hk (Y := setXR X I.rd.toNat (rsvL p (niOf I) x)) ?_ (same_set _ _ _) (h.set _ _ _ _ e2)
 unfold croX
 rw [if_pos (show xresD (niOf I).op = true from ho), e1]; rfl
end
section
variable {X : XS} {R : List UInt8} {x : List Nat} {p : Nat}
theorem Qu.reach (h : Qu X R x p) (q n k : Nat) (hq : q + n <= R.length) (n1 : 1 <= n) (n4 : n <= 4) (hg : q % 4096 + n <= 4096) : reachD X.b (xC X) (2147483648 + q) n k = (⟨2147483648 + q, n, 0, 0, 0, 0⟩, X.b) := by
 rw [reach_one _ _ _ _ _ (by omega)]
 unfold one1 rpD rpP
 rw [h.tr]
 have e : takesD ((2147483648 + q : Nat) : Int) (n : Nat) X.b.ram.length = true := by
  unfold takesD holdsD; rw [h.ram, if_pos (by simp; omega)]
 simp only [e, if_true]
theorem npc_plain (h : Qu X R x p) (I : Ins) (hp : p + 4 <= 65536) (h4 : I.ln = 4) (ho : 11 <= I.op) (ho2 : ¬ (I.op = 67 \/ I.op = 68)) : npcD X (niOf I) = 2147483648 + (p + 4) := zp10
theorem Qu.load (h : Qu X R x p) (hp : p + 4 <= R.length) (hl : R.length <= 65536) (I : Ins) (hk : cod R p = (3, (I, 0))) (ho : 11 <= I.op /\ I.op <= 15) (h4 : I.ln = 4)
 (q : Nat) (hv : wordN ((x.getD I.rs1.toNat 0 : Int) + I.im) = 2147483648 + q) (hq : q + nD I.op <= R.length) (hg : q % 4096 + nD I.op <= 4096) : Goes X R (setL x I.rd.toNat (ldvD I.op (ldN ((R.drop q).take (nD I.op))))) (p + 4) := by
 have hn := nD_le I.op
 have e : (niOf I).op = I.op := rfl
 have hx : ¬ xresD I.op = true := zp1
 refine h.goes hp hl I hk (Y := setXR X I.rd.toNat (ldvD I.op (ldN ((R.drop q).take (nD I.op))))) ?_ (same_set _ _ _) (h.set _ _ _ _ (npc_plain h I (by omega) h4 ho.1 (by omega)))
 unfold croX
 rw [e, if_neg hx, if_neg (by omega), if_pos ho]
 unfold ldX ldF vaD
 rw [h.x, e, show (niOf I).rs1 = I.rs1.toNat from rfl, show (niOf I).im = I.im from rfl, hv, h.reach q _ 1 hq hn.1 hn.2 hg]
 have hr : loadD X.b ⟨2147483648 + q, nD I.op, 0, 0, 0, 0⟩ = (ldN ((R.drop q).take (nD I.op)), X.b) := by
  unfold loadD readD holdsD rdRam
  simp only [Nat.lt_irrefl, if_false]
  rw [h.ram, if_pos (by simp; omega), show ((((2147483648 + q : Nat) : Int)) - 2147483648).toNat = q by omega, Int.toNat_natCast]
 simp only [hr, if_true]
 rfl
theorem Qu.store (h : Qu X R x p) (hp : p + 4 <= R.length) (hl : R.length <= 65536) (I : Ins) (hk : cod R p = (3, (I, 0))) (ho : 16 <= I.op /\ I.op <= 18) (h4 : I.ln = 4)
 (q : Nat) (hv : wordN ((x.getD I.rs1.toNat 0 : Int) + I.im) = 2147483648 + q) (hq : q + nD I.op <= R.length) (hg : q % 4096 + nD I.op <= 4096) : Goes X (stN R q (nD I.op) (x.getD I.rs2.toNat 0)) x (p + 4) := by
 have hn := nD_le I.op
 have e : (niOf I).op = I.op := rfl
 have hx : ¬ xresD I.op = true := zp1
 refine h.goes hp hl I hk (Y := X.withB { X.b with ram := stN R q (nD I.op) (x.getD I.rs2.toNat 0) }) ?_ ⟨rfl, rfl, rfl⟩ ⟨h.waits, h.mie, h.mode, h.ms, rfl, h.x, npc_plain h I (by omega) h4 (by omega) (by omega)⟩
 unfold croX
 rw [e, if_neg hx, if_neg (by omega), if_neg (by omega), if_pos ho]
 unfold stX stF vaD
 rw [h.x, e, show (niOf I).rs1 = I.rs1.toNat from rfl, show (niOf I).im = I.im from rfl, hv, h.reach q _ 2 hq hn.1 hn.2 hg]
 have hr : storeD X.b ⟨2147483648 + q, nD I.op, 0, 0, 0, 0⟩ (x.getD (niOf I).rs2 0) = { X.b with ram := stN R q (nD I.op) (x.getD I.rs2.toNat 0) } := by
  unfold storeD writeD holdsD
  simp only [Nat.lt_irrefl, if_false]
  rw [h.ram, if_pos (by simp; omega), show ((((2147483648 + q : Nat) : Int)) - 2147483648).toNat = q by omega, Int.toNat_natCast]
  rfl
 simp only [hr, if_true]
theorem Qu.branch (h : Qu X R x p) (hp : p + 4 <= R.length) (hl : R.length <= 65536) (I : Ins) (hk : cod R p = (3, (I, 0))) (ho : 5 <= I.op /\ I.op <= 10) (h4 : I.ln = 4)
 (p' : Nat) (hy : holds I.op (x.getD I.rs1.toNat 0) (x.getD I.rs2.toNat 0) = true -> wordN ((2147483648 + p : Nat) + I.im) = 2147483648 + p') (hn : holds I.op (x.getD I.rs1.toNat 0) (x.getD I.rs2.toNat 0) = false -> p' = p + 4) : Goes X R x p' := by
 have e : (niOf I).op = I.op := rfl
 have hx : ¬ xresD I.op = true := zp1
 have hpc : npcD X (niOf I) = 2147483648 + p' := by
  unfold npcD behD
  have e' : (niOf I).ln = 4 := zp0
  rw [e, e', h.x, h.pc, show (niOf I).rs1 = I.rs1.toNat from rfl, show (niOf I).rs2 = I.rs2.toNat from rfl, show (niOf I).im = I.im from rfl]
  cases hb : holds I.op (x.getD I.rs1.toNat 0) (x.getD I.rs2.toNat 0)
  . exact zp11
  . rw [if_pos (.inr ⟨ho, rfl⟩), hy hb]
 refine h.goes hp hl I hk (Y := X) ?_ ⟨rfl, rfl, rfl⟩ ⟨h.waits, h.mie, h.mode, h.ms, h.ram, h.x, hpc⟩
 unfold croX
 rw [e, if_neg hx, if_pos (.inl ho)]
end
section
attribute [local go_sem ↓] Go.wp_at_zero Go.wp_at_succ
def cz (c : XCsr) : XCsr := { c with cyc := 0, cych := 0, ret := 0, reth := 0 }
def dz (b : BusS) : BusS := { b with ram := [] }
def dv0 : BusS := { ram := [], msip := 0, time := 0, timeh := 0, cmp := 4294967295, cmph := 4294967295, enable := 0, scratch := 0, lost := false, rx := ⟨#[]⟩, tx := ⟨#[]⟩ }
def bltR (C : List UInt8) : List UInt8 := laidB (List.replicate 4096 0) 0 C
def bltX (C : List UInt8) (a b : Int) : List UInt8 := laidB (bltR C) 1024 (leA a 4 ++ leA b 4).data.toList
structure BuR (w w' : World) (C : List UInt8) (a b : Int) (mb rb : Nat) (X : XS) : Prop where
 l1 : w.heap.size <= mb
 l2 : w.heap.size <= rb
 xat : XAt w' mb rb X
 inv : XInv X
 len : X.b.ram.length = 4096
 qu : Qu X (bltX C a b) (List.replicate 32 0) 0
 res : X.resd = false
 sc : X.c.mscratch = 0
 cs : cz X.c = csr0
 dv : dz X.b = dv0
theorem qu_load {X : XS} {R : List UInt8} {x : List Nat} {p : Nat} (h : Qu X R x p) (hr : X.resd = false /\ X.c.mscratch = 0 /\ cz X.c = csr0 /\ dz X.b = dv0) (off : Nat) (s : ByteArray) : Qu (loadX X off s) (laidB R off s.data.toList) x p /\ (loadX X off s).resd = false /\ (loadX X off s).c.mscratch = 0 /\ cz (loadX X off s).c = csr0 /\ dz (loadX X off s).b = dv0 := by
 unfold loadX urwX
 split
 . exact ⟨⟨h.waits, h.mie, h.mode, h.ms, by show laidB X.b.ram _ _ = _; rw [h.ram], h.x, h.pc⟩, rfl, hr.2⟩
 . exact ⟨⟨h.waits, h.mie, h.mode, h.ms, by show laidB X.b.ram _ _ = _; rw [h.ram], h.x, h.pc⟩, hr⟩
set_option maxRecDepth 100000 in
theorem k_builtS (C : List UInt8) (hl : C.length <= 1024) (s : ByteArray) (hC : Byt.asmD s.data.toList = (C, 0, 0)) (a b : Int) (w : World) : Calls prog 90 #[.string s, .int .i64 a, .int .i64 b] w fun e w' => (∃ mb rb X, e = .returned (.pointer (some ⟨mb, 0, none⟩)) /\ BuR w w' C a b mb rb X) /\ Kept [] w w' := by
 have N := hide1 (x_New 4096 (by decide) w)
 have hi0 := new_inv 4096 (by decide)
 have q0 : Qu (newX 4096) (List.replicate 4096 0) (List.replicate 32 0) 0 := ⟨rfl, rfl, rfl, rfl, rfl, rfl, rfl⟩
 have z0 : (newX 4096).b.ram.length = 4096 := by rw [q0.ram]; simp
 have r0 : (newX 4096).resd = false /\ (newX 4096).c.mscratch = 0 /\ cz (newX 4096).c = csr0 /\ dz (newX 4096).b = dv0 := ⟨rfl, rfl, rfl, rfl⟩
 have HA := fun W => a_Assemble s W
 rw [hC] at HA
 obtain ⟨c, hc⟩ := zn1 (⟨C.toArray⟩ : ByteArray)
 have hcs : c.data.toList = C := by rw [hc]
 have hcz : c.size = C.length := by rw [hc]; rfl
 have hcv : Byt.strV C = .string c := by rw [hc]; rfl
 simp only [hcv] at HA
 obtain ⟨d, hd, hdz, hda⟩ := add_in (leA a 4) (leA b 4) (by rw [leA_size, leA_size]; decide)
 rw [leA_size, leA_size] at hdz
 generalize newX 4096 = X0 at *
 have e1 : loadE X0.b 0 c = 0 := by unfold loadE; rw [z0, if_neg (by omega), if_neg (by omega)]
 have u1 : loadU X0 0 c = loadX X0 0 c := by unfold loadU; rw [if_pos e1]; rfl
 have hi1 := load_inv hi0 0 c
 obtain ⟨q1, r1⟩ := qu_load q0 r0 0 c
 have L1 := hide1 (fun W (hW : XAt W (w.heap.size + 1) w.heap.size X0) => ux_Load (w.heap.size + 1) w.heap.size X0 hi0 0 c W hW)
 rw [hcs] at q1
 have z1 : (loadX X0 0 c).b.ram.length = 4096 := by rw [q1.ram, laidB_length]; simp
 simp only [u1, e1] at L1
 generalize loadX X0 0 c = X1 at *
 have e2 : loadE X1.b 1024 d = 0 := by unfold loadE; rw [z1, if_neg (by omega), if_neg (by omega)]
 have u2 : loadU X1 1024 d = loadX X1 1024 d := by unfold loadU; rw [if_pos e2]; rfl
 have hi2 := load_inv hi1 1024 d
 obtain ⟨q2, r2⟩ := qu_load q1 r1 1024 d
 have L2 := hide1 (fun W (hW : XAt W (w.heap.size + 1) w.heap.size X1) => ux_Load (w.heap.size + 1) w.heap.size X1 hi1 1024 d W hW)
 have z2 : (loadX X1 1024 d).b.ram.length = 4096 := by rw [q2.ram, laidB_length, laidB_length]; simp
 simp only [u2, e2] at L2
 generalize loadX X1 1024 d = X2 at *
 have FIN : Hid (Qu X2 (bltX C a b) (List.replicate 32 0) 0) := hide1 (by rw [hd] at q2; exact q2)
 have HI := hide1 (show XInv X2 /\ X2.b.ram.length = 4096 /\ X2.resd = false /\ X2.c.mscratch = 0 /\ cz X2.c = csr0 /\ dz X2.b = dv0 from ⟨hi2, z2, r2⟩)
 replace HA := hide1 HA
 clear hi0 q0 z0 r0 hC hc hcs hcz hcv hd hdz e1 u1 hi1 q1 r1 z1 e2 u2 hi2 q2 r2 z2 hl
 go_enter func90, ntmps90
 go_wp2_with fail
 refine N.out.mono ?_
 rintro o w1 ⟨rfl, hm1, hk1⟩
 have M1 := hide1 hm1
 have K1 := hide1 hk1
 clear N hm1 hk1
 go_wp2_with fail
 refine (HA.out _).mono ?_
 rintro o w2 ⟨rfl, hk2⟩
 have M2 := hide1 (M1.out.kept (Below.kept hk2 []))
 have K2 := hide1 (K1.out.trans (Below.kept hk2 []))
 clear hk2 M1 K1 HA
 go_wp2_with fail
 refine (L1.out _ M2.out).mono ?_
 rintro o w3 ⟨rfl, hm3, hk3⟩
 have M3 := hide1 hm3
 have K3 := hide1 (kept_new K2.out hk3 (by omega) (by omega))
 clear L1 hm3 hk3 M2 K2
 go_wp2_with fail
 refine (v_Le4 a _).mono ?_
 rintro o w4 ⟨rfl, hk4⟩
 have M4 := hide1 (M3.out.kept (Below.kept hk4 []))
 have K4 := hide1 (K3.out.trans (Below.kept hk4 []))
 clear hk4 M3 K3
 go_wp2_with fail
 refine (v_Le4 b _).mono ?_
 rintro o w5 ⟨rfl, hk5⟩
 have M5 := hide1 (M4.out.kept (Below.kept hk5 []))
 have K5 := hide1 (K4.out.trans (Below.kept hk5 []))
 clear hk5 M4 K4
 go_wp2_with fail
 refine (L2.out _ M5.out).mono ?_
 rintro o w6 ⟨rfl, hm6, hk6⟩
 have M6 := hide1 hm6
 have K6 := hide1 (kept_new K5.out hk6 (by omega) (by omega))
 clear L2 hm6 hk6 M5 K5
 go_wp2_with fail
 go_ret
 exact ⟨⟨_, _, _, rfl, ⟨by omega, by omega, M6.out, HI.out.1, HI.out.2.1, FIN.out, HI.out.2.2.1, HI.out.2.2.2.1, HI.out.2.2.2.2.1, HI.out.2.2.2.2.2⟩⟩, K6.out⟩
end
theorem getD_set (R : List UInt8) (q j : Nat) (c : UInt8) (h : q < R.length) : (R.set q c).getD j 0 = if j = q then c else R.getD j 0 := by
 rw [List.getD_eq_getElem?_getD, List.getD_eq_getElem?_getD, List.getElem?_set]
 by_cases e : q = j
 . subst e; simp [h]
 . rw [if_neg e, if_neg (fun h => e h.symm)]
theorem laidB_getD : ∀ (l R : List UInt8) (off j : Nat), off + l.length <= R.length -> (laidB R off l).getD j 0 = if off <= j /\ j < off + l.length then l.getD (j - off) 0 else R.getD j 0
 | [], R, off, j, _ => by simp only [laidB, List.length_nil]; rw [if_neg (by omega)]
 | c :: l, R, off, j, h => by
  simp only [List.length_cons] at h |-
  simp only [laidB]
  rw [laidB_getD l _ _ j (by rw [List.length_set]; omega), getD_set _ _ _ _ (by omega)]
  by_cases e : j = off
  . subst e; rw [if_neg (by omega), if_pos rfl, if_pos (by omega), Nat.sub_self]; rfl
  . rw [if_neg e]
    by_cases e2 : off + 1 <= j /\ j < off + 1 + l.length
    . rw [if_pos e2, if_pos (by omega), show j - off = (j - (off + 1)) + 1 by omega]; rfl
    . rw [if_neg e2, if_neg (by omega)]
theorem ldN_step (R : List UInt8) (q n : Nat) (h : q < R.length) : ldN ((R.drop q).take (n + 1)) = (R.getD q 0).toNat + 256 * ldN ((R.drop (q + 1)).take n) := by
 rw [List.drop_eq_getElem_cons h, List.take_succ_cons, ldN, List.getD_eq_getElem?_getD, List.getElem?_eq_getElem h]; rfl
theorem rd2_eq (R : List UInt8) (p : Nat) (h : p + 2 <= R.length) : rd2 R p = (R.getD p 0).toNat + 256 * (R.getD (p + 1) 0).toNat := by
 unfold rd2; rw [ldN_step _ _ _ (by omega), ldN_step _ _ _ (by omega)]; simp [ldN]
theorem ld4_eq (R : List UInt8) (p : Nat) (h : p + 4 <= R.length) : ldN ((R.drop p).take 4) = (R.getD p 0).toNat + 256 * ((R.getD (p + 1) 0).toNat + 256 * ((R.getD (p + 2) 0).toNat + 256 * (R.getD (p + 3) 0).toNat)) := by
 rw [ldN_step _ _ _ (by omega), ldN_step _ _ _ (by omega), ldN_step _ _ _ (by omega), ldN_step _ _ _ (by omega)]; simp [ldN]
theorem cod_eq {R S : List UInt8} (p : Nat) (hR : p + 4 <= R.length) (hS : p + 4 <= S.length) (h : ∀ j, p <= j -> j < p + 4 -> R.getD j 0 = S.getD j 0) : cod R p = cod S p := by
 unfold cod
 rw [rd2_eq R p (by omega), rd2_eq R (p + 2) (by omega), rd2_eq S p (by omega), rd2_eq S (p + 2) (by omega), h p (by omega) (by omega), h (p + 1) (by omega) (by omega), h (p + 2) (by omega) (by omega), h (p + 2 + 1) (by omega) (by omega)]
theorem le_data (v : Int) : (leA v 4).data.toList = [UInt8.ofNat (v % 256).toNat, UInt8.ofNat (v / 256 % 256).toNat, UInt8.ofNat (v / 65536 % 256).toNat, UInt8.ofNat (v / 16777216 % 256).toNat] := by
 unfold leA
 simp [leL, strOfNums]
theorem blt_len (C : List UInt8) (a b : Int) : (bltX C a b).length = 4096 := by unfold bltX bltR; rw [laidB_length, laidB_length, List.length_replicate]
theorem bltR_len (C : List UInt8) : (bltR C).length = 4096 := by unfold bltR; rw [laidB_length, List.length_replicate]
theorem blt_getD (C : List UInt8) (a b : Int) (j : Nat) : (bltX C a b).getD j 0 = if 1024 <= j /\ j < 1032 then (leA a 4 ++ leA b 4).data.toList.getD (j - 1024) 0 else (bltR C).getD j 0 := by
 have e : (leA a 4 ++ leA b 4).data.toList.length = 8 := by rw [Array.length_toList]; show (leA a 4 ++ leA b 4).size = 8; rw [ByteArray.size_append, leA_size, leA_size]
 unfold bltX
 rw [laidB_getD _ _ _ _ (by rw [e, bltR_len]; decide), e]
theorem blt_cod (C : List UInt8) (a b : Int) (p : Nat) (h : p + 4 <= 1024) : cod (bltX C a b) p = cod (bltR C) p :=
 cod_eq p (by rw [blt_len]; omega) (by rw [bltR_len]; omega) fun j h1 h2 => by rw [blt_getD, if_neg (by omega)]
theorem blt_bytes (a b : Int) : (leA a 4 ++ leA b 4).data.toList = (leA a 4).data.toList ++ (leA b 4).data.toList := by
 rw [ByteArray.data_append, Array.toList_append]
theorem blt_a (C : List UInt8) (a b : Int) : ldN (((bltX C a b).drop 1024).take 4) = wordN a := by
 rw [ld4_eq _ _ (by rw [blt_len]; decide)]
 simp only [blt_getD, blt_bytes, le_data]
 simp [wordN]
 omega
section
variable {C : List UInt8} {X : XS} {R R' : List UInt8} {x x' : List Nat} {p p' s : Nat} {r : Option Nat}
def resO (X : XS) : Option Nat := if X.resd = true then some X.resv else none
variable {C : List UInt8} {X : XS} {R R' : List UInt8} {x x' : List Nat} {p p' s : Nat} {r : Option Nat}
theorem Same.res {X Y : XS} (h : Same X Y) : resO Y = resO X := by unfold resO; rw [h.rd, h.rv]
end
section
variable {C R : List UInt8} {X : XS} {x x' : List Nat} {p p' : Nat} {c c' : XCsr} {b b' : BusS}
def intZ (c : XCsr) (b : BusS) : Int := intD ⟨b, c, [], 0, 3, false, false, 0⟩
structure Cm (c : XCsr) (b : BusS) : Prop where
 int : intZ c b = -1
 mp : c.mstatus / 131072 % 2 = 0
theorem Cm.of (c : XCsr) (b : BusS) (h : c.mie = 0) (h2 : c.mstatus = 0) : Cm c b := by
 refine ⟨?_, by rw [h2]⟩
 have e : askD ⟨b, c, [], 0, 3, false, false, 0⟩ = 0 := by unfold askD; show _ &&& c.mie = 0; rw [h]; simp
 unfold intZ intD intB wout
 rw [e]; simp
structure Qi (C R : List UInt8) (X : XS) (x : List Nat) (p : Nat) (c : XCsr) (b : BusS) : Prop where
 len : R.length = 4096
 code : ∀ p, p + 4 <= 1024 -> cod R p = cod (bltR C) p
 waits : X.waits = false
 mode : X.mode = 3
 ram : X.b.ram = R
 x : X.x = x
 pc : X.pc = 2147483648 + p
 c : cz X.c = c
 b : dz X.b = b
def Gi (C R : List UInt8) (X : XS) (x : List Nat) (p : Nat) (c : XCsr) (b : BusS) : Prop := ∃ Z, Qi C R Z x p c b /\ ∀ n k, runG (n + 1) k X = runG n (k + 1) Z
theorem Gi.cast {C R : List UInt8} {X : XS} {x : List Nat} {p : Nat} {c : XCsr} {b : BusS} (h : Gi C R X x p c b) (x' : List Nat) (e : x = x') : Gi C R X x' p c b := e ▸ h
variable {C R : List UInt8} {X : XS} {x x' : List Nat} {p p' : Nat} {c c' : XCsr} {b b' : BusS}
theorem Qi.bus (h : Qi C R X x p c b) : X.b = { b with ram := R } := by
 rw [<- h.b, <- h.ram]; rfl
theorem Qi.int (h : Qi C R X x p c b) : intD X = intZ c b := by
 have e : intD X = intZ (cz X.c) (dz X.b) := by unfold intZ intD; rw [h.mode]; rfl
 rw [e, h.c, h.b]
theorem Qi.wak (h : Qi C R X x p c b) : wakX X = X := by
 have := h.waits
 cases X; simp only at this; subst this; rfl
theorem Qi.tr (h : Qi C R X x p c b) (q : c.mstatus / 131072 % 2 = 0) (va k : Nat) : trD X.b (xC X) va k = ((va, 0), X.b) := by
 have e : actsD (xC X) k = 3 := by
  have hm : (xC X).mprv = 0 := by show X.c.mstatus / 131072 % 2 = 0; rw [show X.c.mstatus = c.mstatus from (congrArg XCsr.mstatus h.c : (cz X.c).mstatus = c.mstatus)]; exact q
  unfold actsD
  rw [hm, show (xC X).mode = 3 from h.mode]; simp
 unfold trD pgD
 rw [e]; rfl
theorem Qi.half (h : Qi C R X x p c b) (q : c.mstatus / 131072 % 2 = 0) (a : Nat) (hq : a + 2 <= 4096) : halfD X.b (xC X) (2147483648 + a) = ((rd2 R a, 0), X.b) := by
 unfold halfD halfP
 rw [h.tr q]
 have hl := h.len
 have e : holdsD ((2147483648 + a : Nat) : Int) 2 X.b.ram.length = true := by unfold holdsD; rw [h.ram]; simp; omega
 simp only [e, if_true]
 unfold rdRam rd2
 rw [h.ram, show 2147483648 + a - 2147483648 = a by omega]
theorem Qi.fetch (h : Qi C R X x p c b) (q : c.mstatus / 131072 % 2 = 0) (hp : p + 4 <= 1024) (h3 : rd2 R p % 4 = 3) : fetchD X.b (xC X) X.pc = (⟨rd2 R p + rd2 R (p + 2) * 65536, 0, 0⟩, X.b) := by
 unfold fetchD
 rw [h.pc, show (2147483648 + p + 2) % 4294967296 = 2147483648 + (p + 2) by omega, h.half q p (by omega)]
 simp only [h3, if_true]
 rw [h.half q (p + 2) (by omega)]
 simp only [if_true]
theorem Qi.go (h : Qi C R X x p c b) (q : Cm c b) (I : Ins) (hp : p + 4 <= 1024) (hk : cod (bltR C) p = (3, (I, 0))) {Y : XS} (hc : ∀ v, croX X (niOf I) v = ((-1, 0), Y))
 (y1 : Y.waits = false) (y2 : Y.mode = 3) (y3 : Y.b.ram = R) (y4 : Y.x = x') (y5 : npcD X (niOf I) = 2147483648 + p') (y6 : cz Y.c = c') (y7 : dz Y.b = b') : Gi C R X x' p' c' b' := by
 have hk := (h.code p hp).trans hk
 have h3 : rd2 R p % 4 = 3 := congrArg Prod.fst hk
 have hd : decodeD ((rd2 R p + rd2 R (p + 2) * 65536 : Nat) : Int) = (I, 0) := congrArg Prod.snd hk
 have e : insX X = ((niOf I, (-1, 0)), { Y with pc := npcD X (niOf I) }) := by
  unfold insX
  rw [h.fetch q.mp hp h3]
  simp only [hd, if_true]
  have e : X.withB X.b = X := rfl
  rw [e]
  unfold insR
  rw [hc]; simp
 have e : actX X = ((0, 0, cwrD (niOf I)), { Y with pc := npcD X (niOf I) }) := by
  unfold actX
  rw [if_neg (by rw [h.waits]; simp), h.wak, if_pos (h.int.trans q.int), e]
  unfold actE; simp
 obtain ⟨m, e⟩ : ∃ m, stepX X = ((0, 0), cntX { Y with pc := npcD X (niOf I) } true m) := by
  unfold stepX
  rw [e]
  exact ⟨_, rfl⟩
 refine ⟨(stepX X).2, ?_, fun n k => ?_⟩
 . rw [e]; exact ⟨h.len, h.code, y1, y2, y3, y4, y5, y6, y7⟩
 . exact zp12
theorem setXR_eqs (X : XS) (d v : Nat) : (setXR X d v).waits = X.waits /\ (setXR X d v).mode = X.mode /\ (setXR X d v).b = X.b /\ (setXR X d v).x = setL X.x d v /\ (setXR X d v).c = X.c := by
 unfold setXR setL; split <;> exact ⟨rfl, rfl, rfl, rfl, rfl⟩
theorem Qi.goR (h : Qi C R X x p c b) (q : Cm c b) (I : Ins) (hp : p + 4 <= 1024) (hk : cod (bltR C) p = (3, (I, 0))) (d v : Nat) (hc : ∀ u, croX X (niOf I) u = ((-1, 0), setXR X d v)) (y5 : npcD X (niOf I) = 2147483648 + p') : Gi C R X (setL x d v) p' c b := by
 obtain ⟨e1, e2, e3, e4, e5⟩ := setXR_eqs X d v
 exact h.go q I hp hk hc (by rw [e1, h.waits]) (by rw [e2, h.mode]) (by rw [e3, h.ram]) (by rw [e4, h.x]) y5 (by rw [e5, h.c]) (by rw [e3, h.b])
theorem Qi.npc (h : Qi C R X x p c b) (I : Ins) (hp : p + 4 <= 1024) (h4 : I.ln = 4) (ho : I.op = 1 \/ I.op = 2 \/ 11 <= I.op) (ho2 : ¬ (I.op = 67 \/ I.op = 68)) : npcD X (niOf I) = 2147483648 + (p + 4) := zp10
theorem Qi.alu (h : Qi C R X x p c b) (q : Cm c b) (I : Ins) (hk : cod (bltR C) p = (3, (I, 0))) (ho : (p + 4 <= 1024 /\ xresD I.op = true /\ ¬ (I.op = 3 \/ I.op = 4)) /\ I.ln = 4) (v : Nat) (hv : rsvL p (niOf I) x = v) : Gi C R X (setL x I.rd.toNat v) (p + 4) c b := by
 have ho' := ho.1.2.1
 unfold xresD at ho'
 simp only [decide_eq_true_eq] at ho'
 have e : (niOf I).op = I.op := rfl
 have e1 : rsvD X (niOf I) = v := by
  rw [<- hv]
  unfold rsvD rsvL
  rw [h.x, h.pc, e, if_neg ho.1.2.2]
 refine h.goR q I ho.1.1 hk I.rd.toNat v (fun u => ?_) (h.npc I ho.1.1 ho.2 (by omega) (by omega))
 unfold croX
 rw [if_pos (show xresD (niOf I).op = true from ho.1.2.1), e1]; rfl
theorem Qi.branch (h : Qi C R X x p c b) (q : Cm c b) (I : Ins) (hk : cod (bltR C) p = (3, (I, 0))) (ho : (p + 4 <= 1024 /\ 5 <= I.op /\ I.op <= 10) /\ I.ln = 4) (p' : Nat) (hy : holds I.op (x.getD I.rs1.toNat 0) (x.getD I.rs2.toNat 0) = true -> wordN ((2147483648 + p : Nat) + I.im) = 2147483648 + p') (hn : holds I.op (x.getD I.rs1.toNat 0) (x.getD I.rs2.toNat 0) = false -> p' = p + 4) : Gi C R X x p' c b := by
 have e : (niOf I).op = I.op := rfl
 have hx : ¬ xresD I.op = true := zp1
 have hpc : npcD X (niOf I) = 2147483648 + p' := by
  unfold npcD behD
  have e' : (niOf I).ln = 4 := by show I.ln.toNat = 4; rw [ho.2]; rfl
  rw [e, e', h.x, h.pc, show (niOf I).rs1 = I.rs1.toNat from rfl, show (niOf I).rs2 = I.rs2.toNat from rfl, show (niOf I).im = I.im from rfl]
  cases hb : holds I.op (x.getD I.rs1.toNat 0) (x.getD I.rs2.toNat 0)
  . exact zp11
  . rw [if_pos (.inr ⟨ho.1.2, rfl⟩), hy hb]
 refine h.go q I ho.1.1 hk (Y := X) (fun v => ?_) h.waits h.mode h.ram h.x hpc h.c h.b
 unfold croX
 rw [e, if_neg hx, if_pos (.inl ho.1.2)]
theorem Qi.jal (h : Qi C R X x p c b) (q : Cm c b) (I : Ins) (hk : cod (bltR C) p = (3, (I, 0))) (ho : (p + 4 <= 1024 /\ I.op = 3 /\ I.rd = 0) /\ I.ln = 4) (p' : Nat) (hj : wordN ((2147483648 + p : Nat) + I.im) = 2147483648 + p') : Gi C R X x p' c b := by
 have e : (niOf I).op = I.op := rfl
 have hx : xresD (niOf I).op = true := by unfold xresD; rw [e]; simp; omega
 have e2 : npcD X (niOf I) = 2147483648 + p' := by
  unfold npcD tgtD
  rw [e, h.pc, show (niOf I).im = I.im from rfl, if_pos (.inl ho.1.2.1), hj]
 refine h.go q I ho.1.1 hk (Y := X) (fun v => ?_) h.waits h.mode h.ram h.x e2 h.c h.b
 unfold croX
 rw [if_pos hx, show (niOf I).rd = 0 from by show I.rd.toNat = 0; rw [ho.1.2.2]; rfl]; rfl
end
section
variable {C R : List UInt8} {X : XS} {x x' : List Nat} {p p' : Nat} {c c' : XCsr} {b b' : BusS}
theorem Qi.reach (h : Qi C R X x p c b) (q : c.mstatus / 131072 % 2 = 0) (pa n k : Nat) (n1 : 1 <= n) (n4 : n <= 4) (hg : pa % 4096 + n <= 4096) (ht : takesD (pa : Int) (n : Int) 4096 = true) : reachD X.b (xC X) pa n k = (⟨pa, n, 0, 0, 0, 0⟩, X.b) := by
 rw [reach_one _ _ _ _ _ (by omega)]
 unfold one1 rpD rpP
 rw [h.tr q]
 have e : takesD (pa : Int) (n : Nat) X.b.ram.length = true := by rw [h.ram, h.len]; exact ht
 simp only [e, if_true]
theorem Qi.dload (h : Qi C R X x p c b) (q : Cm c b) (I : Ins) (hk : cod (bltR C) p = (3, (I, 0))) (pa : Nat) (ho : (p + 4 <= 1024 /\ I.op = 14) /\ I.ln = 4 /\ pa % 4096 + 1 <= 4096) (ht : takesD (pa : Int) 1 4096 = true) (hh : holdsD (pa : Int) 1 4096 = false) (hq : wordN ((x.getD I.rs1.toNat 0 : Int) + I.im) = pa) (v : Nat) (b' : BusS) (hb : b'.ram = []) (hr : ∀ r, readV { b with ram := r } (pa : Int) = (v, { b' with ram := r })) : Gi C R X (setL x I.rd.toNat v) (p + 4) c b' := by
 have e : (niOf I).op = I.op := rfl
 have hx : ¬ xresD I.op = true := zp1
 have hn : nD I.op = 1 := by rw [ho.1.2]; rfl
 have hv : ldvD I.op v = v := by rw [ho.1.2]; rfl
 have hc : ∀ u, croX X (niOf I) u = ((-1, 0), setXR (X.withB { b' with ram := R }) I.rd.toNat v) := fun u => by
  unfold croX
  rw [e, if_neg hx, if_neg (by omega), if_pos (by omega)]
  unfold ldX ldF vaD
  rw [h.x, e, show (niOf I).rs1 = I.rs1.toNat from rfl, show (niOf I).im = I.im from rfl, hq, hn, h.reach q.mp pa 1 1 (by decide) (by decide) ho.2.2 ht]
  have hr : loadD X.b ⟨pa, 1, 0, 0, 0, 0⟩ = (v, { b' with ram := R }) := by
   unfold loadD readD
   simp only [Nat.lt_irrefl, if_false]
   have e1 : holdsD (pa : Int) ((1 : Nat) : Int) X.b.ram.length = false := by rw [h.ram, h.len]; exact hh
   have e2 : takesD (pa : Int) ((1 : Nat) : Int) X.b.ram.length = true := by rw [h.ram, h.len]; exact ht
   rw [if_neg (by rw [e1]; simp), if_pos e2, h.bus, hr]
  simp only [hr, if_true]
  rw [hv]; rfl
 obtain ⟨e1, e2, e3, e4, e5⟩ := setXR_eqs (X.withB { b' with ram := R }) I.rd.toNat v
 have hd : dz { b' with ram := R } = b' := by cases b'; simp only at hb; subst hb; rfl
 exact h.go q I ho.1.1 hk hc (by rw [e1]; exact h.waits) (by rw [e2]; exact h.mode) (by rw [e3]; rfl) (by rw [e4]; show setL X.x _ _ = _; rw [h.x]) (h.npc I ho.1.1 ho.2.1 (by omega) (by omega)) (by rw [e5]; exact h.c) (by rw [e3]; exact hd)
theorem Qi.dstore (h : Qi C R X x p c b) (q : Cm c b) (I : Ins) (hk : cod (bltR C) p = (3, (I, 0))) (pa : Nat) (ho : (p + 4 <= 1024 /\ 16 <= I.op /\ I.op <= 18) /\ I.ln = 4 /\ pa % 4096 + nD I.op <= 4096) (ht : takesD (pa : Int) (nD I.op : Nat) 4096 = true) (hh : holdsD (pa : Int) (nD I.op : Nat) 4096 = false) (hq : wordN ((x.getD I.rs1.toNat 0 : Int) + I.im) = pa) (v : Nat) (hv : x.getD I.rs2.toNat 0 = v) (b' : BusS) (hb : b'.ram = []) (hr : ∀ r, writeV { b with ram := r } (pa : Int) v = { b' with ram := r }) : Gi C R X x (p + 4) c b' := by
 have e : (niOf I).op = I.op := rfl
 have hx : ¬ xresD I.op = true := zp1
 have hn := nD_le I.op
 have hc : ∀ u, croX X (niOf I) u = ((-1, 0), X.withB { b' with ram := R }) := fun u => by
  unfold croX
  rw [e, if_neg hx, if_neg (by omega), if_neg (by omega), if_pos ho.1.2]
  unfold stX stF vaD
  rw [h.x, e, show (niOf I).rs1 = I.rs1.toNat from rfl, show (niOf I).im = I.im from rfl, hq, h.reach q.mp pa _ 2 hn.1 hn.2 ho.2.2 ht]
  have hr : storeD X.b ⟨pa, nD I.op, 0, 0, 0, 0⟩ (x.getD (niOf I).rs2 0) = { b' with ram := R } := by
   unfold storeD writeD
   simp only [Nat.lt_irrefl, if_false]
   have e1 : holdsD (pa : Int) (nD I.op : Nat) X.b.ram.length = false := by rw [h.ram, h.len]; exact hh
   have e2 : takesD (pa : Int) (nD I.op : Nat) X.b.ram.length = true := by rw [h.ram, h.len]; exact ht
   rw [if_neg (by rw [e1]; simp), if_pos e2, h.bus, show x.getD (niOf I).rs2 0 = v from hv, hr]
  simp only [hr, if_true]
 have hd : dz { b' with ram := R } = b' := by cases b'; simp only at hb; subst hb; rfl
 exact h.go q I ho.1.1 hk hc h.waits h.mode rfl h.x (h.npc I ho.1.1 ho.2.1 (by omega) (by omega)) h.c hd
theorem Qi.load (h : Qi C R X x p c b) (q : Cm c b) (I : Ins) (hk : cod (bltR C) p = (3, (I, 0))) (a : Nat) (ho : (p + 4 <= 1024 /\ I.op = 13) /\ I.ln = 4 /\ a + 4 <= 4096) (hq : wordN ((x.getD I.rs1.toNat 0 : Int) + I.im) = 2147483648 + a) (v : Nat) (hv : ldN ((R.drop a).take 4) = v) : Gi C R X (setL x I.rd.toNat v) (p + 4) c b := by
 have e : (niOf I).op = I.op := rfl
 have hx : ¬ xresD I.op = true := zp1
 have hn : nD I.op = 4 := by rw [ho.1.2]; rfl
 have hl : ∀ u, ldvD I.op u = u := fun u => by rw [ho.1.2]; rfl
 have hb : holdsD ((2147483648 + a : Nat) : Int) ((4 : Nat) : Int) 4096 = true := by unfold holdsD; simp; omega
 refine h.goR q I ho.1.1 hk I.rd.toNat v (fun u => ?_) (h.npc I ho.1.1 ho.2.1 (by omega) (by omega))
 unfold croX
 rw [e, if_neg hx, if_neg (by omega), if_pos (by omega)]
 unfold ldX ldF vaD
 rw [h.x, e, show (niOf I).rs1 = I.rs1.toNat from rfl, show (niOf I).im = I.im from rfl, hq, hn, h.reach q.mp (2147483648 + a) 4 1 (by decide) (by decide) (by omega) (by unfold takesD; rw [if_pos hb])]
 have hr : loadD X.b ⟨2147483648 + a, 4, 0, 0, 0, 0⟩ = (v, X.b) := by
  unfold loadD readD rdRam
  simp only [Nat.lt_irrefl, if_false]
  rw [h.ram, h.len, if_pos hb, show ((((2147483648 + a : Nat) : Int)) - 2147483648).toNat = a by omega, Int.toNat_natCast, hv]
 simp only [hr, if_true]
 rw [hl]; rfl
end
def eB (rx tx : List UInt8) (l : Bool) : BusS := { ram := [], msip := 0, time := 0, timeh := 0, cmp := 4294967295, cmph := 4294967295, enable := 0, scratch := 0, lost := l, rx := ⟨rx.toArray⟩, tx := ⟨tx.toArray⟩ }
theorem stat_eB (rx tx : List UInt8) (l : Bool) (r : List UInt8) (ht : tx.length < 8) : statD { eB rx tx l with ram := r } = (if 0 < rx.length then 1 else 0) + (if l = true then 2 else 0) + 32 + (if tx.length = 0 then 64 else 0) := by
 unfold statD eB
 simp [ByteArray.size, ht]
theorem stat_read (rx tx : List UInt8) (l : Bool) (st : Nat) (ht : tx.length < 8) (hs : (if 0 < rx.length then 1 else 0) + (if l = true then 2 else 0) + 32 + (if tx.length = 0 then 64 else 0) = st) (r : List UInt8) : readV { eB rx tx l with ram := r } ((268435461 : Nat) : Int) = (st, { eB rx tx false with ram := r }) := by
 rw [<- hs, <- stat_eB rx tx l r ht]; rfl
theorem data_read (cc : UInt8) (rx tx : List UInt8) (r : List UInt8) : readV { eB (cc :: rx) tx false with ram := r } ((268435456 : Nat) : Int) = (cc.toNat, { eB rx tx false with ram := r }) := by
 have e : readV { eB (cc :: rx) tx false with ram := r } ((268435456 : Nat) : Int) = if h : 0 < (⟨(cc :: rx).toArray⟩ : ByteArray).size then ((⟨(cc :: rx).toArray⟩ : ByteArray)[0].toNat, { eB (cc :: rx) tx false with ram := r, rx := (⟨(cc :: rx).toArray⟩ : ByteArray).extract 1 (⟨(cc :: rx).toArray⟩ : ByteArray).size }) else (0, { eB (cc :: rx) tx false with ram := r }) := rfl
 have h : 0 < (⟨(cc :: rx).toArray⟩ : ByteArray).size := by simp [ByteArray.size]
 rw [e, dif_pos h]
 have e2 : (⟨(cc :: rx).toArray⟩ : ByteArray).extract 1 (⟨(cc :: rx).toArray⟩ : ByteArray).size = ⟨rx.toArray⟩ := by
  apply ByteArray.ext
  rw [ByteArray.data_extract]
  simp [ByteArray.size]
 rw [e2]; rfl
theorem data_write (cc : UInt8) (rx tx : List UInt8) (ht : tx.length < 8) (r : List UInt8) : writeV { eB rx tx false with ram := r } ((268435456 : Nat) : Int) cc.toNat = { eB rx (tx ++ [cc]) false with ram := r } := by
 have e : writeV { eB rx tx false with ram := r } ((268435456 : Nat) : Int) cc.toNat = if (⟨tx.toArray⟩ : ByteArray).size < 8 then { eB rx tx false with ram := r, tx := (⟨tx.toArray⟩ : ByteArray) ++ strOfNums (leL cc.toNat 1) } else { eB rx tx false with ram := r } := rfl
 rw [e, if_pos (by simp [ByteArray.size]; exact ht)]
 have e2 : (⟨tx.toArray⟩ : ByteArray) ++ strOfNums (leL cc.toNat 1) = ⟨(tx ++ [cc]).toArray⟩ := by
  apply ByteArray.ext
  rw [ByteArray.data_append]
  have e3 : ((cc.toNat : Int) % 256).toNat = cc.toNat := by have := cc.toNat_lt; omega
  simp [leL, strOfNums]
  rw [e3]; simp
 rw [e2]; rfl
section
variable {R : List UInt8} {X : XS} {rx tx : List UInt8} {l : Bool} {x2 x3 x4 x5 x6 : Nat}
def ecoC : List UInt8 := [183, 0, 0, 16, 3, 193, 80, 0, 19, 114, 33, 0, 179, 226, 66, 0, 147, 113, 17, 0, 227, 136, 1, 254, 3, 195, 0, 0, 35, 128, 96, 0, 111, 240, 95, 254]
def eL (x2 x3 x4 x5 x6 : Nat) : List Nat := [0, 268435456, x2, x3, x4, x5, x6, 0, 0, 0, 0, 0, 0, 0, 0, 0, 0, 0, 0, 0, 0, 0, 0, 0, 0, 0, 0, 0, 0, 0, 0, 0]
theorem qt (b : BusS) : Cm csr0 b := Cm.of csr0 b rfl rfl
theorem alu24 (a k : Nat) : alu 24 a k = a &&& k := rfl
theorem alu36 (a k : Nat) : alu 36 a k = a ||| k := rfl
theorem wN1 : wordN 1 = 1 := rfl
theorem wN2 : wordN 2 = 2 := rfl
theorem imm24 (p : Nat) (I : Ins) (x : List Nat) (a k v : Nat) (ho : I.op = 24) (hx : x.getD I.rs1.toNat 0 = a) (hk : wordN I.im = k) (h : a &&& k = v) : rsvL p (niOf I) x = v := by
 unfold rsvL
 rw [show (niOf I).op = I.op from rfl, ho, if_neg (by decide), if_neg (by decide), if_pos (by decide), show (niOf I).rs1 = I.rs1.toNat from rfl, show (niOf I).im = I.im from rfl, hx, hk, alu24, h]
theorem reg36 (p : Nat) (I : Ins) (x : List Nat) (a k v : Nat) (ho : I.op = 36) (hx : x.getD I.rs1.toNat 0 = a) (hk : x.getD I.rs2.toNat 0 = k) (h : a ||| k = v) : rsvL p (niOf I) x = v := by
 unfold rsvL
 rw [show (niOf I).op = I.op from rfl, ho, if_neg (by decide), if_neg (by decide), if_neg (by decide), show (niOf I).rs1 = I.rs1.toNat from rfl, show (niOf I).rs2 = I.rs2.toNat from rfl, hx, hk, alu36, h]
variable {R : List UInt8} {X : XS} {rx tx : List UInt8} {l : Bool} {x2 x3 x4 x5 x6 : Nat}
theorem ech4 (h : Qi ecoC R X (eL x2 x3 x4 x5 x6) 4 csr0 (eB rx tx l)) (ht : tx.length < 8) (st : Nat) (hs : (if 0 < rx.length then 1 else 0) + (if l = true then 2 else 0) + 32 + (if tx.length = 0 then 64 else 0) = st) : Gi ecoC R X (eL st x3 x4 x5 x6) 8 csr0 (eB rx tx false) :=
 (h.dload (qt _) ⟨14, 2, 1, 0, 5, 4⟩ (by kernel_rfl) 268435461 (by decide) (by kernel_rfl) (by kernel_rfl) (by kernel_rfl) st (eB rx tx false) rfl (stat_read rx tx l st ht hs)).cast _ (by kernel_rfl)
theorem ech8 (h : Qi ecoC R X (eL x2 x3 x4 x5 x6) 8 csr0 (eB rx tx l)) (v : Nat) (hv : x2 &&& 2 = v) : Gi ecoC R X (eL x2 x3 v x5 x6) 12 csr0 (eB rx tx l) :=
 (h.alu (qt _) ⟨24, 4, 2, 0, 2, 4⟩ (by kernel_rfl) (by decide) v (imm24 _ _ _ x2 2 v rfl (by kernel_rfl) wN2 hv)).cast _ (by kernel_rfl)
theorem ech12 (h : Qi ecoC R X (eL x2 x3 x4 x5 x6) 12 csr0 (eB rx tx l)) (v : Nat) (hv : x5 ||| x4 = v) : Gi ecoC R X (eL x2 x3 x4 v x6) 16 csr0 (eB rx tx l) :=
 (h.alu (qt _) ⟨36, 5, 5, 4, 0, 4⟩ (by kernel_rfl) (by decide) v (reg36 _ _ _ x5 x4 v rfl (by kernel_rfl) (by kernel_rfl) hv)).cast _ (by kernel_rfl)
theorem ech16 (h : Qi ecoC R X (eL x2 x3 x4 x5 x6) 16 csr0 (eB rx tx l)) (v : Nat) (hv : x2 &&& 1 = v) : Gi ecoC R X (eL x2 v x4 x5 x6) 20 csr0 (eB rx tx l) :=
 (h.alu (qt _) ⟨24, 3, 2, 0, 1, 4⟩ (by kernel_rfl) (by decide) v (imm24 _ _ _ x2 1 v rfl (by kernel_rfl) wN1 hv)).cast _ (by kernel_rfl)
theorem ech20n (h : Qi ecoC R X (eL x2 1 x4 x5 x6) 20 csr0 (eB rx tx l)) : Gi ecoC R X (eL x2 1 x4 x5 x6) 24 csr0 (eB rx tx l) :=
 h.branch (qt _) ⟨5, 0, 3, 0, -16, 4⟩ (by kernel_rfl) (by decide) 24 (fun h => by cases h) (fun _ => rfl)
theorem ech20y (h : Qi ecoC R X (eL x2 0 x4 x5 x6) 20 csr0 (eB rx tx l)) : Gi ecoC R X (eL x2 0 x4 x5 x6) 4 csr0 (eB rx tx l) :=
 h.branch (qt _) ⟨5, 0, 3, 0, -16, 4⟩ (by kernel_rfl) (by decide) 4 (fun _ => by kernel_rfl) (fun h => by cases h)
theorem ech24 (cc : UInt8) (h : Qi ecoC R X (eL x2 x3 x4 x5 x6) 24 csr0 (eB (cc :: rx) tx false)) : Gi ecoC R X (eL x2 x3 x4 x5 cc.toNat) 28 csr0 (eB rx tx false) :=
 (h.dload (qt _) ⟨14, 6, 1, 0, 0, 4⟩ (by kernel_rfl) 268435456 (by decide) (by kernel_rfl) (by kernel_rfl) (by kernel_rfl) cc.toNat (eB rx tx false) rfl (data_read cc rx tx)).cast _ (by kernel_rfl)
theorem ech28 (cc : UInt8) (ht : tx.length < 8) (h : Qi ecoC R X (eL x2 x3 x4 x5 cc.toNat) 28 csr0 (eB rx tx false)) : Gi ecoC R X (eL x2 x3 x4 x5 cc.toNat) 32 csr0 (eB rx (tx ++ [cc]) false) :=
 h.dstore (qt _) ⟨16, 0, 1, 6, 0, 4⟩ (by kernel_rfl) 268435456 (by decide) (by kernel_rfl) (by kernel_rfl) (by kernel_rfl) cc.toNat (by kernel_rfl) (eB rx (tx ++ [cc]) false) rfl (data_write cc rx tx ht)
theorem ech32 (h : Qi ecoC R X (eL x2 x3 x4 x5 x6) 32 csr0 (eB rx tx l)) : Gi ecoC R X (eL x2 x3 x4 x5 x6) 4 csr0 (eB rx tx l) :=
 h.jal (qt _) ⟨3, 0, 0, 0, -28, 4⟩ (by kernel_rfl) (by decide) 4 (by kernel_rfl)
theorem ech_byte (cc : UInt8) (ht : tx.length < 8) (h0 : Qi ecoC R X (eL x2 x3 x4 x5 x6) 4 csr0 (eB (cc :: rx) tx l)) : ∃ Z y2 y3 y4 y6, Qi ecoC R Z (eL y2 y3 y4 (x5 ||| (if l = true then 2 else 0)) y6) 4 csr0 (eB rx (tx ++ [cc]) false) /\ ∀ n k, runG (n + 8) k X = runG n (k + 8) Z := by
 obtain ⟨st, hs⟩ := zn2 ((if 0 < (cc :: rx).length then 1 else 0) + (if l = true then 2 else 0) + 32 + (if tx.length = 0 then 64 else 0) : Nat)
 have s2 : st &&& 2 = if l = true then 2 else 0 := by
  rw [<- hs, if_pos (by simp)]
  by_cases hz : tx.length = 0
  . rw [if_pos hz]; cases l <;> rfl
  . rw [if_neg hz]; cases l <;> rfl
 have s1 : st &&& 1 = 1 := by
  rw [<- hs, if_pos (by simp)]
  by_cases hz : tx.length = 0
  . rw [if_pos hz]; cases l <;> rfl
  . rw [if_neg hz]; cases l <;> rfl
 obtain ⟨X1, h1, e1⟩ := ech4 h0 ht st hs
 obtain ⟨X2, h2, e2⟩ := ech8 h1 _ s2
 obtain ⟨X3, h3, e3⟩ := ech12 h2 _ rfl
 obtain ⟨X4, h4, e4⟩ := ech16 h3 _ s1
 obtain ⟨X5, h5, e5⟩ := ech20n h4
 obtain ⟨X6, h6, e6⟩ := ech24 cc h5
 obtain ⟨X7, h7, e7⟩ := ech28 cc ht h6
 obtain ⟨X8, h8, e8⟩ := ech32 h7
 exact ⟨X8, _, _, _, _, h8, fun n k => by rw [e1, e2, e3, e4, e5, e6, e7, e8]⟩
theorem ech_idle (ht : tx.length < 8) : ∀ (n k : Nat) (X : XS) (x2 x3 x4 x6 p : Nat), Qi ecoC R X (eL x2 x3 x4 x5 x6) p csr0 (eB [] tx false) -> (p = 4 \/ (p = 8 /\ x2 &&& 2 = 0 /\ x2 &&& 1 = 0) \/ (p = 12 /\ x4 = 0 /\ x2 &&& 1 = 0) \/ (p = 16 /\ x2 &&& 1 = 0) \/ (p = 20 /\ x3 = 0)) -> ∃ Y x2 x3 x4 x6 p, runG n k X = (k + n, Y) /\ Qi ecoC R Y (eL x2 x3 x4 x5 x6) p csr0 (eB [] tx false)
 | 0, k, X, x2, x3, x4, x6, p, h, _ => ⟨X, x2, x3, x4, x6, p, rfl, h⟩
 | n + 1, k, X, x2, x3, x4, x6, p, h, hp => by
  rcases hp with rfl | ⟨rfl, a, b⟩ | ⟨rfl, rfl, b⟩ | ⟨rfl, b⟩ | ⟨rfl, rfl⟩
  . obtain ⟨st, hs⟩ := zn2 ((if 0 < ([] : List UInt8).length then 1 else 0) + (if false = true then 2 else 0) + 32 + (if tx.length = 0 then 64 else 0) : Nat)
    have s2 : st &&& 2 = 0 := by
     rw [<- hs]
     by_cases hz : tx.length = 0
     . rw [if_pos hz]; rfl
     . rw [if_neg hz]; rfl
    have s1 : st &&& 1 = 0 := by
     rw [<- hs]
     by_cases hz : tx.length = 0
     . rw [if_pos hz]; rfl
     . rw [if_neg hz]; rfl
    obtain ⟨X1, h1, e1⟩ := ech4 h ht st hs
    obtain ⟨Y, z2, z3, z4, z6, zp, r, q⟩ := ech_idle ht n (k + 1) X1 _ _ _ _ _ h1 (.inr (.inl ⟨rfl, s2, s1⟩))
    exact ⟨Y, z2, z3, z4, z6, zp, by rw [e1, r, show k + 1 + n = k + (n + 1) by omega], q⟩
  . obtain ⟨X1, h1, e1⟩ := ech8 h _ a
    obtain ⟨Y, z2, z3, z4, z6, zp, r, q⟩ := ech_idle ht n (k + 1) X1 _ _ _ _ _ h1 (.inr (.inr (.inl ⟨rfl, rfl, b⟩)))
    exact ⟨Y, z2, z3, z4, z6, zp, by rw [e1, r, show k + 1 + n = k + (n + 1) by omega], q⟩
  . obtain ⟨X1, h1, e1⟩ := ech12 h x5 (Nat.or_zero x5)
    obtain ⟨Y, z2, z3, z4, z6, zp, r, q⟩ := ech_idle ht n (k + 1) X1 _ _ _ _ _ h1 (.inr (.inr (.inr (.inl ⟨rfl, b⟩))))
    exact ⟨Y, z2, z3, z4, z6, zp, by rw [e1, r, show k + 1 + n = k + (n + 1) by omega], q⟩
  . obtain ⟨X1, h1, e1⟩ := ech16 h _ b
    obtain ⟨Y, z2, z3, z4, z6, zp, r, q⟩ := ech_idle ht n (k + 1) X1 _ _ _ _ _ h1 (.inr (.inr (.inr (.inr ⟨rfl, rfl⟩))))
    exact ⟨Y, z2, z3, z4, z6, zp, by rw [e1, r, show k + 1 + n = k + (n + 1) by omega], q⟩
  . obtain ⟨X1, h1, e1⟩ := ech20y h
    obtain ⟨Y, z2, z3, z4, z6, zp, r, q⟩ := ech_idle ht n (k + 1) X1 _ _ _ _ _ h1 (.inl rfl)
    exact ⟨Y, z2, z3, z4, z6, zp, by rw [e1, r, show k + 1 + n = k + (n + 1) by omega], q⟩
theorem ech_all : ∀ (rx tx : List UInt8) (n k : Nat) (X : XS) (x2 x3 x4 x5 x6 : Nat), tx.length + rx.length < 8 -> 8 * rx.length <= n -> Qi ecoC R X (eL x2 x3 x4 x5 x6) 4 csr0 (eB rx tx false) -> ∃ Y x2 x3 x4 x6 p, runG n k X = (k + n, Y) /\ Qi ecoC R Y (eL x2 x3 x4 x5 x6) p csr0 (eB [] (tx ++ rx) false)
 | [], tx, n, k, X, x2, x3, x4, x5, x6, hl, hn, h => by
  rw [List.append_nil]
  exact ech_idle (by simpa using hl) n k X x2 x3 x4 x6 4 h (.inl rfl)
 | cc :: rx, tx, n, k, X, x2, x3, x4, x5, x6, hl, hn, h => by
  simp only [List.length_cons] at hl hn
  obtain ⟨X1, y2, y3, y4, y6, h1, e1⟩ := ech_byte cc (by omega) h
  rw [if_neg (by decide), Nat.or_zero] at h1
  obtain ⟨Y, z2, z3, z4, z6, zp, r, q⟩ := ech_all rx (tx ++ [cc]) (n - 8) (k + 8) X1 y2 y3 y4 x5 y6 (by simp; omega) (by omega) h1
  refine ⟨Y, z2, z3, z4, z6, zp, ?_, by rw [List.append_assoc] at q; exact q⟩
  have := e1 (n - 8) k
  rw [show n - 8 + 8 = n by omega] at this
  rw [this, r, show k + 8 + (n - 8) = k + n by omega]
theorem ech_run (rx : List UInt8) (l : Bool) (hx : rx.length <= 4) (hl : l = true -> 0 < rx.length) (X : XS) (h0 : Qi ecoC R X (List.replicate 32 0) 0 csr0 (eB rx [] l)) : ∃ Y, (runG 64 0 X).2 = Y /\ Y.x.getD 5 0 = (if l = true then 2 else 0) /\ Y.b.tx = ⟨rx.toArray⟩ := by
 obtain ⟨X1, h1, e1⟩ := (h0.alu (qt _) ⟨1, 1, 0, 0, 65536, 4⟩ (by kernel_rfl) (by decide) 268435456 (by kernel_rfl)).cast (eL 0 0 0 0 0) (by kernel_rfl)
 cases rx with
 | nil =>
  have hf : l = false := by cases l; rfl; exact absurd (hl rfl) (by decide)
  subst hf
  obtain ⟨Y, z2, z3, z4, z6, zp, r, q⟩ := ech_all [] [] 63 1 X1 _ _ _ _ _ (by decide) (by decide) h1
  exact ⟨Y, by rw [e1, r], by rw [q.x]; rfl, by rw [q.bus]; rfl⟩
 | cons cc rx =>
  simp only [List.length_cons] at hx
  obtain ⟨X2, y2, y3, y4, y6, h2, e2⟩ := ech_byte cc (by decide) h1
  obtain ⟨Y, z2, z3, z4, z6, zp, r, q⟩ := ech_all rx [cc] 55 9 X2 _ _ _ _ _ (by simp; omega) (by omega) h2
  refine ⟨Y, by rw [e1, e2, r], by rw [q.x]; show 0 ||| _ = _; rw [Nat.zero_or], by rw [q.bus]; rfl⟩
end
section
attribute [local go_sem ↓] Go.wp_at_zero Go.wp_at_succ
set_option maxRecDepth 100000 in
theorem k_loads (a b : Int) (w : World) : Calls prog 47 #[.int .i64 a, .int .i64 b] w fun o w' => BoolR o /\ Kept [] w w' := by
 go_enter func47, ntmps47
 go_wp2_with fail
 refine (k_built _ _ _ w).mono ?_
 rintro o w1 ⟨rfl | ⟨mb, rb, l1, l2, rfl, hm⟩, hk⟩
 . exact zp14
 have M1 := hide1 hm
 have K1 := hide1 hk
 clear hm hk
 go_wp2_with fail
 refine (m_Run mb rb _ 22 w1 M1.out).mono ?_
 exact zp13
set_option maxRecDepth 100000 in
theorem k_self (k : Int) (w : World) : Calls prog 44 #[.int .i64 k] w fun o w' => BoolR o /\ Kept [] w w' := by
 go_enter func44, ntmps44
 go_wp2_with fail
 refine (k_built _ _ _ w).mono ?_
 rintro o w1 ⟨rfl | ⟨mb, rb, l1, l2, rfl, hm⟩, hk⟩
 . exact zp14
 have M1 := hide1 hm
 have K1 := hide1 hk
 clear hm hk
 go_wp2_with fail
 refine (m_Run mb rb _ 12 w1 M1.out).mono ?_
 exact zp13
set_option maxRecDepth 100000 in
theorem k_mapper (s : ByteArray) (va v root low : Int) (w : World) : Calls prog 96 #[.string s, .int .i64 va, .int .i64 v, .int .i64 root, .int .i64 low] w fun e w' => MadeR w w' 16384 e := by
 have N := hide1 (m_New 16384 (by decide) w)
 go_enter func96, ntmps96
 go_wp2_with fail
 refine N.out.mono ?_
 rintro o w1 ⟨rfl, hm1, hk1⟩
 have M1 := hide1 hm1
 have K1 := hide1 hk1
 clear N hm1 hk1
 go_wp2_with fail
 refine (a_Asm' s _).mono ?_
 rintro o w2 ⟨⟨X, er, n, rfl⟩, hk2⟩
 have M2 := hide1 (M1.out.kept hk2)
 have K2 := hide1 (K1.out.trans hk2)
 clear hk2 M1 K1
 by_cases her : er = 0
 . have q : (er != 0) = false := by simp [her]
   have q' : (er == 0) = true := by simp [her]
   clear her
   go_wp2_with fail
   refine (m_Load _ _ _ _ _ w2 M2.out).mono ?_
   rintro o w3 ⟨⟨e2, rfl⟩, hm, hk⟩
   have M3 := hide1 hm
   have K3 := hide1 (kept_new K2.out hk (by omega) (by omega))
   clear hm hk M2 K2
   go_wp2_with fail
   refine (u_Le4' _ _).mono ?_
   rintro o w4 ⟨⟨A0, hA0, rfl⟩, hk⟩
   have M4 := hide1 (M3.out.kept hk)
   have K4 := hide1 (K3.out.trans hk)
   clear hk M3 K3
   go_wp2_with fail
   refine (m_Load _ _ _ _ _ w4 M4.out).mono ?_
   rintro o w5 ⟨⟨e4, rfl⟩, hm, hk⟩
   have M5 := hide1 hm
   have K5 := hide1 (kept_new K4.out hk (by omega) (by omega))
   clear hm hk M4 K4
   go_wp2_with fail
   refine (u_Le4' _ _).mono ?_
   rintro o w6 ⟨⟨A, hA, rfl⟩, hk⟩
   have M6 := hide1 (M5.out.kept hk)
   have K6 := hide1 (K5.out.trans hk)
   clear hk M5 K5
   go_wp2_with fail
   refine (u_Le4' _ _).mono ?_
   rintro o w7 ⟨⟨B, hB, rfl⟩, hk⟩
   have M7 := hide1 (M6.out.kept hk)
   have K7 := hide1 (K6.out.trans hk)
   clear hk M6 K6
   go_wp2_with fail
   refine (u_Le4' _ _).mono ?_
   rintro o w8 ⟨⟨C, hC, rfl⟩, hk⟩
   have M8 := hide1 (M7.out.kept hk)
   have K8 := hide1 (K7.out.trans hk)
   clear hk M7 K7
   go_wp2_with fail
   refine (u_Le4' _ _).mono ?_
   rintro o w9 ⟨⟨D, hD, rfl⟩, hk⟩
   have M9 := hide1 (M8.out.kept hk)
   have K9 := hide1 (K8.out.trans hk)
   clear hk M8 K8
   obtain ⟨c1, g1, z1, hc1⟩ := add_in A B (by omega)
   obtain ⟨c2, g2, z2, hc2⟩ := add_in c1 C (by omega)
   obtain ⟨c3, g3, z3, hc3⟩ := add_in c2 D (by omega)
   clear g1 g2 g3 z1 z2 z3 hA hB hC hD hA0
   go_wp2_with fail
   refine (m_Load _ _ _ _ _ w9 M9.out).mono ?_
   rintro o w10 ⟨⟨e9, rfl⟩, hm, hk⟩
   have M10 := hide1 hm
   have K10 := hide1 (kept_new K9.out hk (by omega) (by omega))
   clear hm hk M9 K9
   go_wp2_with fail
   refine (u_Le4' _ _).mono ?_
   rintro o w11 ⟨⟨F, hF, rfl⟩, hk⟩
   have M11 := hide1 (M10.out.kept hk)
   have K11 := hide1 (K10.out.trans hk)
   clear hk M10 K10
   go_wp2_with fail
   refine (m_Load _ _ _ _ _ w11 M11.out).mono ?_
   rintro o w12 ⟨⟨e11, rfl⟩, hm, hk⟩
   have M12 := hide1 hm
   have K12 := hide1 (kept_new K11.out hk (by omega) (by omega))
   clear hm hk M11 K11
   go_wp2_with fail
   refine (u_Le4' _ _).mono ?_
   rintro o w13 ⟨⟨G, hG, rfl⟩, hk⟩
   have M13 := hide1 (M12.out.kept hk)
   have K13 := hide1 (K12.out.trans hk)
   clear hk M12 K12
   go_wp2_with fail
   refine (m_Load _ _ _ _ _ w13 M13.out).mono ?_
   rintro o w14 ⟨⟨e13, rfl⟩, hm, hk⟩
   have M14 := hide1 hm
   have K14 := hide1 (kept_new K13.out hk (by omega) (by omega))
   clear hm hk M13 K13
   go_wp2_with fail
   go_ret
   exact ⟨.inr ⟨_, _, by omega, by omega, rfl, M14.out⟩, K14.out⟩
 . have q : (er != 0) = true := by simp [her]
   have q' : (er == 0) = false := by simp [her]
   clear her
   go_wp2_with fail
   go_ret
   exact ⟨.inl rfl, K2.out⟩
theorem and_any (a : Int) (c : Nat) (hc : c < 9223372036854775808) : bits .and .i64 a (c : Int) = (((a % 18446744073709551616).toNat &&& c : Nat) : Int) := by
 have hx : bits .and .i64 a (c : Int) = IntKind.i64.wrap (((BitVec.ofInt 64 a &&& BitVec.ofInt 64 (c : Int)).toNat : Nat) : Int) := rfl
 have h1 : (BitVec.ofInt 64 a).toNat = (a % 18446744073709551616).toNat := by simp [BitVec.toNat_ofInt]
 rw [hx, BitVec.toNat_and, h1, bv_nat c hc]
 exact wrap_nat63 _ (Nat.lt_of_le_of_lt Nat.and_le_right hc)
theorem va_any (a : Int) : ∃ n : Nat, n <= 4294967292 /\ n % 4 = 0 /\ bits .and .i64 a 4294967292 = (n : Int) := by
 refine ⟨(a % 18446744073709551616).toNat &&& 4294967292, Nat.and_le_right, ?_, and_any a 4294967292 (by decide)⟩
 have h := bit_andN (a % 18446744073709551616).toNat 4294967292 0
 have h2 := bit_andN (a % 18446744073709551616).toNat 4294967292 1
 simp at h h2
 omega
theorem v_any (a : Int) : ∃ n : Nat, n <= 4294967295 /\ bits .and .i64 a 4294967295 = (n : Int) :=
 ⟨(a % 18446744073709551616).toNat &&& 4294967295, Nat.and_le_right, and_any a 4294967295 (by decide)⟩
theorem va_big (n : Nat) (h : n <= 4294967292) (h4 : n % 4 = 0) : ∃ m : Nat, m <= 4294967292 /\ m % 4 = 0 /\ bits .or .i64 (bits .or .i64 (bits .andNot .i64 (n : Int) 4194303) 12288) (bits .and .i64 (n : Int) 4095) = (m : Int) := by
 have e1 : bits .andNot .i64 (n : Int) 4194303 = ((wout n 4194303 : Nat) : Int) := b_andn n 4194303 (by omega) (by decide)
 have hw := wout_le n 4194303
 have e2 : bits .or .i64 ((wout n 4194303 : Nat) : Int) 12288 = ((wout n 4194303 ||| 12288 : Nat) : Int) := b_or _ 12288 (by omega) (by decide)
 have e3 : bits .and .i64 (n : Int) 4095 = ((n &&& 4095 : Nat) : Int) := b_and n 4095 (by omega) (by decide)
 have l2 : wout n 4194303 ||| 12288 < 4294967296 := nat_or_lt _ _ 32 (by omega) (by decide)
 have l3 : n &&& 4095 <= 4095 := Nat.and_le_right
 have e4 := b_or (wout n 4194303 ||| 12288) (n &&& 4095) (by omega) (by omega)
 have l4 : (wout n 4194303 ||| 12288) ||| (n &&& 4095) < 4294967296 := nat_or_lt _ _ 32 l2 (by omega)
 have m4 : ((wout n 4194303 ||| 12288) ||| (n &&& 4095)) % 4 = 0 := by
  have b0 := bit_orN (wout n 4194303 ||| 12288) (n &&& 4095) 0
  have b1 := bit_orN (wout n 4194303 ||| 12288) (n &&& 4095) 1
  have c0 := bit_andN n 4095 0
  have c1 := bit_andN n 4095 1
  have d0 := bit_orN (wout n 4194303) 12288 0
  have d1 := bit_orN (wout n 4194303) 12288 1
  have f0 := bit_woutN n 4194303 0
  have f1 := bit_woutN n 4194303 1
  simp at b0 b1 c0 c1 d0 d1 f0 f1
  have g0 : n % 2 = 0 := by omega
  have g1 : n / 2 % 2 = 0 := by omega
  rw [g1] at c1
  simp [g0, d0, f0] at b0
  simp [c1, d1, f1] at b1
  omega
 exact ⟨_, by omega, m4, by rw [e1, e2, e3, e4]⟩
theorem k_regS (mb rb : Nat) (X : XS) (i : Int) (w : World) (hw : XAt w mb rb X) : CS 91 #[.pointer (some ⟨mb, 0, none⟩), .int .i64 i] (.int .i64 (regU X.x i).1) w := by
 have R := hide1 (ux_Reg mb rb X i w hw)
 generalize (regU X.x i).1 = a at R |-
 generalize (regU X.x i).2 = b at R
 go_enter func91, ntmps91
 go_wp2_with fail
 refine R.out.mono ?_
 rintro o w1 ⟨rfl, hw1⟩
 rw [hw1]
 go_wp2_with fail
 go_ret
 exact ⟨rfl, rfl⟩
theorem mask_any (a : Int) : bits .and .i64 a 4294967295 = (wordN a : Int) := by
 have := and_any a 4294967295 (by decide)
 rw [show ((4294967295 : Nat) : Int) = 4294967295 from rfl] at this
 rw [this, show (4294967295 : Nat) = 2 ^ 32 - 1 from rfl, Nat.and_two_pow_sub_one_eq_mod]
 unfold wordN; omega
theorem arr_one (cc : UInt8) (rx : List UInt8) (l : Bool) (r : List UInt8) (h : rx.length < 4) : arrB { eB rx [] l with ram := r } (cc.toNat : Int) = { eB (rx ++ [cc]) [] l with ram := r } := by
 have e : arrB { eB rx [] l with ram := r } (cc.toNat : Int) = if (⟨rx.toArray⟩ : ByteArray).size < 4 then { eB rx [] l with ram := r, rx := (⟨rx.toArray⟩ : ByteArray) ++ strOfNums (leL cc.toNat 1) } else { eB rx [] l with ram := r, lost := true } := rfl
 rw [e, if_pos (by simp [ByteArray.size]; exact h)]
 have e2 : (⟨rx.toArray⟩ : ByteArray) ++ strOfNums (leL cc.toNat 1) = ⟨(rx ++ [cc]).toArray⟩ := by
  apply ByteArray.ext
  rw [ByteArray.data_append]
  have e3 : ((cc.toNat : Int) % 256).toNat = cc.toNat := by have := cc.toNat_lt; omega
  simp [leL, strOfNums]
  rw [e3]; simp
 rw [e2]; rfl
theorem arr_full (cc : UInt8) (rx : List UInt8) (l : Bool) (r : List UInt8) (h : rx.length = 4) : arrB { eB rx [] l with ram := r } (cc.toNat : Int) = { eB rx [] true with ram := r } := by
 have e : arrB { eB rx [] l with ram := r } (cc.toNat : Int) = if (⟨rx.toArray⟩ : ByteArray).size < 4 then { eB rx [] l with ram := r, rx := (⟨rx.toArray⟩ : ByteArray) ++ strOfNums (leL cc.toNat 1) } else { eB rx [] l with ram := r, lost := true } := rfl
 rw [e, if_neg (by simp [ByteArray.size]; omega)]; rfl
theorem arr_eB : ∀ (t rx : List UInt8) (l : Bool) (r : List UInt8), rx.length <= 4 -> arrG t { eB rx [] l with ram := r } = { eB (rx ++ t.take (4 - rx.length)) [] (l || decide (4 < rx.length + t.length)) with ram := r }
 | [], rx, l, r, h => by
  have e : decide (4 < rx.length + ([] : List UInt8).length) = false := decide_eq_false (by simp; omega)
  rw [e]; simp [arrG]
 | cc :: t, rx, l, r, h => by
  show arrG t (arrB { eB rx [] l with ram := r } (cc.toNat : Int)) = _
  by_cases h4 : rx.length < 4
  . rw [arr_one cc rx l r h4, arr_eB t (rx ++ [cc]) l r (by simp; omega)]
    have e1 : rx ++ [cc] ++ t.take (4 - (rx ++ [cc]).length) = rx ++ (cc :: t).take (4 - rx.length) := by
     rw [show 4 - rx.length = (4 - (rx ++ [cc]).length) + 1 by simp; omega, List.take_succ_cons, List.append_assoc]; rfl
    have e2 : decide (4 < (rx ++ [cc]).length + t.length) = decide (4 < rx.length + (cc :: t).length) := by
     have : (rx ++ [cc]).length + t.length = rx.length + (cc :: t).length := by simp; omega
     rw [this]
    rw [e1, e2]
  . have h5 : rx.length = 4 := by omega
    rw [arr_full cc rx l r h5, arr_eB t rx true r h]
    have e1 : decide (4 < rx.length + (cc :: t).length) = true := decide_eq_true (by simp; omega)
    rw [e1, show 4 - rx.length = 0 by omega]; simp
structure EcX (X : XS) (s : ByteArray) (n e : Int) (o : ByteArray) (v : Nat) : Prop where
 fe : (feedU X s).1 = (n, e)
 inv : XInv X -> XInv (feedU X s).2
 tx : (runG 64 0 (feedU X s).2).2.b.tx = o
 x5 : (runG 64 0 (feedU X s).2).2.x.getD 5 0 = v
theorem ech_fed {R : List UInt8} {X : XS} (h : Qi ecoC R X (List.replicate 32 0) 0 csr0 dv0) (t : List UInt8) : Qi ecoC R (X.withB (arrG t X.b)) (List.replicate 32 0) 0 csr0 (eB (t.take 4) [] (decide (4 < t.length))) /\ (arrG t X.b).rx.size = (t.take 4).length /\ X.b.rx.size = 0 := by
 have e : X.b = { eB [] [] false with ram := R } := h.bus
 have e2 := arr_eB t [] false R (by decide)
 rw [show [] ++ t.take (4 - ([] : List UInt8).length) = t.take 4 from rfl, Bool.false_or, show ([] : List UInt8).length + t.length = t.length from Nat.zero_add _] at e2
 refine ⟨⟨h.len, h.code, h.waits, h.mode, ?_, h.x, h.pc, h.c, ?_⟩, ?_, ?_⟩
 . show (arrG t X.b).ram = R; rw [e, e2]
 . show dz (arrG t X.b) = _; rw [e, e2]; rfl
 . rw [e, e2]; show (⟨(t.take 4).toArray⟩ : ByteArray).size = _; simp [ByteArray.size]
 . rw [e]; rfl
theorem ba_of (s : ByteArray) : (⟨s.data.toList.toArray⟩ : ByteArray) = s := by cases s; rfl
theorem ech_ways {R : List UInt8} {X : XS} (h : Qi ecoC R X (List.replicate 32 0) 0 csr0 dv0) (s : ByteArray) : (64 < s.size /\ EcX X s 0 1 ⟨#[]⟩ 0) \/ (s.size <= 4 /\ EcX X s s.size 0 s 0) \/ (4 < s.size /\ s.size <= 64 /\ EcX X s 4 0 (s.extract 0 4) 2) := by
 have hz : s.data.toList.length = s.size := rfl
 by_cases h1 : s.size <= 64
 . obtain ⟨q, z1, z2⟩ := ech_fed h s.data.toList
   have ef : feedU X s = ((((arrG s.data.toList X.b).rx.size : Int) - X.b.rx.size, 0), X.withB (arrG s.data.toList X.b)) := by unfold feedU; rw [if_pos h1]
   obtain ⟨Y, r1, r2, r3⟩ := ech_run (s.data.toList.take 4) (decide (4 < s.data.toList.length)) (by simp; omega) (fun k => by have := of_decide_eq_true k; simp; omega) _ q
   have hin : XInv X -> XInv (feedU X s).2 := fun hi => by rw [ef]; exact feed_inv hi _
   by_cases h4 : s.size <= 4
   . refine .inr (.inl ⟨h4, ⟨?_, hin, ?_, ?_⟩⟩)
     . rw [ef, z1, z2, List.take_of_length_le (by omega), hz]; simp
     . rw [ef, r1, r3, List.take_of_length_le (by omega), ba_of]
     . rw [ef, r1, r2, decide_eq_false (by omega)]; rfl
   . refine .inr (.inr ⟨by omega, h1, ⟨?_, hin, ?_, ?_⟩⟩)
     . rw [ef, z1, z2, List.length_take, hz, show min 4 s.size = 4 by omega]; rfl
     . rw [ef, r1, r3]
       apply ByteArray.ext
       rw [ByteArray.data_extract]
       apply Array.ext'
       simp
     . rw [ef, r1, r2, decide_eq_true (by omega)]; rfl
 . have ef : feedU X s = ((0, 1), X) := by unfold feedU; rw [if_neg h1]
   obtain ⟨Y, r1, r2, r3⟩ := ech_run [] false (by decide) (fun k => by cases k) X (show Qi ecoC R X _ 0 csr0 (eB [] [] false) from h)
   exact .inl ⟨by omega, ⟨by rw [ef], fun hi => by rw [ef]; exact hi, by rw [ef, r1, r3], by rw [ef, r1, r2]; rfl⟩⟩
theorem BuR.qi {w w' : World} {C : List UInt8} {a b : Int} {mb rb : Nat} {X : XS} (h : BuR w w' C a b mb rb X) : Qi C (bltX C a b) X (List.replicate 32 0) 0 csr0 dv0 :=
 ⟨blt_len _ _ _, fun p hp => blt_cod _ _ _ p hp, h.qu.waits, h.qu.mode, h.qu.ram, h.qu.x, h.qu.pc, h.cs, h.dv⟩
set_option maxRecDepth 100000 in
theorem k_echoS (s : ByteArray) (hs : s.size <= 1125899906842624) (w : World) : CK 42 #[.string s] (.bool true) w := by
 go_enter func42, ntmps42
 go_wp2_with fail
 refine (k_builtS ecoC (by decide) _ (by kernel_rfl) 0 0 w).mono ?_
 rintro o w1 ⟨⟨mb, rb, X, rfl, hm⟩, hkp⟩
 have WY := ech_ways hm.qi s
 have hi := hm.inv
 have FE := hide1 (ux_Feed mb rb X hi s w1 hm.xat)
 have l1 := hm.l1
 have l2 := hm.l2
 have K1 := hide1 hkp
 clear hm hkp
 rcases WY with ⟨z, h⟩ | ⟨z, h⟩ | ⟨z, z', h⟩
 . have f1 := congrArg Prod.fst h.fe
   have f2 := congrArg Prod.snd h.fe
   simp only at f1 f2
   have XI := hide1 (h.inv hi)
   have TX := h.tx
   have X5 := h.x5
   rw [f1, f2] at FE
   clear f1 f2 h hi
   generalize (feedU X s).2 = X2 at *
   have RN := hide1 (fun W hW => x_Run mb rb X2 XI.out 64 (by decide) W (hide1 hW))
   obtain ⟨r, Y, hr⟩ : ∃ r Y, runG 64 0 X2 = (r, Y) := ⟨_, _, rfl⟩
   rw [hr] at TX X5
   simp only [hr] at RN
   replace TX : Y.b.tx = _ := TX
   replace X5 : Y.x.getD 5 0 = _ := X5
   have DR := hide1 (fun W hW => x_Drain mb rb Y W (hide1 hW))
   rw [TX] at DR
   have RG := hide1 (fun W hW => k_regS mb rb { Y with b := { Y.b with tx := ⟨#[]⟩ } } 5 W hW)
   have g5 : (regU Y.x 5).1 = ((Y.x.getD 5 0 : Nat) : Int) := rfl
   rw [X5] at g5
   simp only [g5] at RG
   clear hr TX X5 g5 XI
   have y : decide (64 < (s.size : Int)) = true := decide_eq_true (by omega)
   exact zp15
 . have f1 := congrArg Prod.fst h.fe
   have f2 := congrArg Prod.snd h.fe
   simp only at f1 f2
   have XI := hide1 (h.inv hi)
   have TX := h.tx
   have X5 := h.x5
   rw [f1, f2] at FE
   clear f1 f2 h hi
   generalize (feedU X s).2 = X2 at *
   have RN := hide1 (fun W hW => x_Run mb rb X2 XI.out 64 (by decide) W (hide1 hW))
   obtain ⟨r, Y, hr⟩ : ∃ r Y, runG 64 0 X2 = (r, Y) := ⟨_, _, rfl⟩
   rw [hr] at TX X5
   simp only [hr] at RN
   replace TX : Y.b.tx = _ := TX
   replace X5 : Y.x.getD 5 0 = _ := X5
   have DR := hide1 (fun W hW => x_Drain mb rb Y W (hide1 hW))
   rw [TX] at DR
   have RG := hide1 (fun W hW => k_regS mb rb { Y with b := { Y.b with tx := ⟨#[]⟩ } } 5 W hW)
   have g5 : (regU Y.x 5).1 = ((Y.x.getD 5 0 : Nat) : Int) := rfl
   rw [X5] at g5
   simp only [g5] at RG
   clear hr TX X5 g5 XI
   have y : decide ((s.size : Int) <= 4) = true := decide_eq_true (by omega)
   exact zp15
 . have f1 := congrArg Prod.fst h.fe
   have f2 := congrArg Prod.snd h.fe
   simp only at f1 f2
   have XI := hide1 (h.inv hi)
   have TX := h.tx
   have X5 := h.x5
   rw [f1, f2] at FE
   clear f1 f2 h hi
   generalize (feedU X s).2 = X2 at *
   have RN := hide1 (fun W hW => x_Run mb rb X2 XI.out 64 (by decide) W (hide1 hW))
   obtain ⟨r, Y, hr⟩ : ∃ r Y, runG 64 0 X2 = (r, Y) := ⟨_, _, rfl⟩
   rw [hr] at TX X5
   simp only [hr] at RN
   replace TX : Y.b.tx = _ := TX
   replace X5 : Y.x.getD 5 0 = _ := X5
   have DR := hide1 (fun W hW => x_Drain mb rb Y W (hide1 hW))
   rw [TX] at DR
   have RG := hide1 (fun W hW => k_regS mb rb { Y with b := { Y.b with tx := ⟨#[]⟩ } } 5 W hW)
   have g5 : (regU Y.x 5).1 = ((Y.x.getD 5 0 : Nat) : Int) := rfl
   rw [X5] at g5
   simp only [g5] at RG
   clear hr TX X5 g5 XI
   have y : decide ((s.size : Int) <= 4) = false := decide_eq_false (by omega)
   have y1 : (4 : Int) <= s.size := by omega
   clear z z' hs
   exact zp16
end
section
variable {C R : List UInt8} {X : XS} {x x' : List Nat} {p p' : Nat} {c c' : XCsr} {b b' : BusS}
theorem Cm.of2 (c : XCsr) (b : BusS) (h : c.mideleg = 0) (h3 : bitN c.mstatus 3 = false) (mp : c.mstatus / 131072 % 2 = 0) : Cm c b := by
 refine ⟨?_, mp⟩
 unfold intZ intD
 simp only [h, h3]
 unfold intB
 simp
theorem wm768 (X : XS) (v : Nat) : writeMachD X 768 v = { X with c := { X.c with mstatus := xstwD X.c.mstatus v } } := rfl
theorem wm772 (X : XS) (v : Nat) : writeMachD X 772 v = { X with c := { X.c with mie := v &&& 2730 } } := rfl
theorem wm773 (X : XS) (v : Nat) : writeMachD X 773 v = { X with c := { X.c with mtvec := wout v 2 } } := rfl
theorem mc768 (X : XS) : rcsD X 768 = (X.c.mstatus, true) := rfl
theorem mc772 (X : XS) : rcsD X 772 = (X.c.mie, true) := rfl
theorem mc773 (X : XS) : rcsD X 773 = (X.c.mtvec, true) := rfl
theorem Qi.csrw (h : Qi C R X x p c b) (q : Cm c b) (I : Ins) (hk : cod (bltR C) p = (3, (I, 0))) (ho : (p + 4 <= 1024 /\ (I.op = 61 \/ I.op = 64) /\ I.rd = 0) /\ I.ln = 4 /\ (I.im = 768 \/ I.im = 772 \/ I.im = 773)) (v : Nat) (hv : (if I.op <= 63 then x.getD I.rs1.toNat 0 else I.rs1.toNat) = v) (c' : XCsr) (hc' : cz (writeMachD ⟨b, c, [], 0, 3, false, false, 0⟩ I.im v).c = c') : Gi C R X x (p + 4) c' b := by
 have e : (niOf I).op = I.op := rfl
 have hx : ¬ xresD I.op = true := zp1
 have hr : ∃ s, rcsD X (niOf I).im = (s, true) := by
  rcases ho.2.2 with hi | hi | hi <;> rw [show (niOf I).im = I.im from rfl, hi]
  . exact ⟨_, mc768 X⟩
  . exact ⟨_, mc772 X⟩
  . exact ⟨_, mc773 X⟩
 obtain ⟨s, hr⟩ := hr
 have hm : mayB X (niOf I) = true := by
  unfold mayB mayT
  rw [hr, h.mode]
  rcases ho.2.2 with hi | hi | hi <;> rw [show (niOf I).im = I.im from rfl, hi] <;> rfl
 have hw : wrcB (niOf I) = true := by unfold wrcB; rw [e]; simp; omega
 have ec : ccrX X (niOf I) = writeMachD X I.im v := by
  unfold ccrX
  rw [if_pos hw]
  have e0 : ∀ u, setXR X (niOf I).rd u = X := fun u => by unfold setXR; rw [if_pos (by show I.rd.toNat = 0; rw [ho.1.2.2]; rfl)]
  rw [e0]
  have ev : ∀ o, xchgD (niOf I).op o (opdD X (niOf I)) = v := fun o => by
   unfold xchgD opdD
   rw [e, if_neg (by omega), if_neg (by omega), h.x]; exact hv
  rw [ev]
  unfold wcsX
  rw [show (niOf I).im = I.im from rfl, if_neg (by omega), if_pos (by omega)]
 have hc : ∀ u, croX X (niOf I) u = ((-1, 0), writeMachD X I.im v) := fun u => by
  unfold croX
  rw [e, if_neg hx, if_neg (by omega), if_neg (by omega), if_neg (by omega), if_neg (by omega), if_neg (by omega), if_neg (by omega), if_pos ⟨by omega, hm⟩, ec]
 have hn := h.npc I ho.1.1 ho.2.1 (by omega) (by omega)
 rw [<- h.c] at hc'
 rcases ho.2.2 with hi | hi | hi
 . rw [hi, wm768] at hc hc'
   exact zp17
 . rw [hi, wm772] at hc hc'
   exact zp17
 . rw [hi, wm773] at hc hc'
   exact zp17
theorem Qi.trap (h : Qi C R X x p c b) (hi : intZ c b = 7) (hp : xhdlD c.mtvec 2147483655 = 2147483648 + p') (c' : XCsr) (hc : cz { c with mepc := 2147483648 + p, mcause := 2147483655, mtval := 0, mstatus := xmtrD c.mstatus 3 } = c') : ∃ Z, Qi C R Z x p' c' b /\ ∀ n k, runG (n + 1) k X = runG n k Z := by
 have e : actX X = ((2, 7, 0), tmX X 2147483655 0) := by
  unfold actX
  have hj : intD X = 7 := h.int.trans hi
  rw [if_neg (by rw [h.waits]; simp), h.wak, hj, if_neg (by decide)]
  unfold tiX dlgB
  rw [h.mode]; rfl
 obtain ⟨m, e⟩ : ∃ m, stepX X = ((2, 7), cntX (tmX X 2147483655 0) false m) := by
  unfold stepX
  rw [e]
  exact ⟨_, rfl⟩
 have hm : X.c.mtvec = c.mtvec := (congrArg XCsr.mtvec h.c : (cz X.c).mtvec = c.mtvec)
 refine ⟨(stepX X).2, ?_, fun n k => ?_⟩
 . rw [e]
   refine ⟨h.len, h.code, h.waits, rfl, h.ram, h.x, ?_, ?_, h.b⟩
   . show xhdlD X.c.mtvec 2147483655 = _; rw [hm, hp]
   . rw [<- hc, <- h.c, <- h.pc]
     show cz { X.c with mepc := X.pc, mcause := 2147483655, mtval := 0, mstatus := xmtrD X.c.mstatus X.mode } = _
     rw [h.mode]; rfl
 . exact zp12
theorem Qi.spin (hk : cod (bltR C) p = (3, (⟨3, 0, 0, 0, 0, 4⟩, 0))) (hp : p + 4 <= 1024) (q : Cm c b) : ∀ (n k : Nat) (X : XS), Qi C R X x p c b -> ∃ Y, runG n k X = (k + n, Y) /\ Qi C R Y x p c b
 | 0, k, X, h => ⟨X, rfl, h⟩
 | n + 1, k, X, h => by
  obtain ⟨X1, h1, e1⟩ := h.jal q ⟨3, 0, 0, 0, 0, 4⟩ hk ⟨⟨hp, rfl, rfl⟩, rfl⟩ p (by unfold wordN; simp; omega)
  obtain ⟨Y, r, h2⟩ := Qi.spin hk hp q n (k + 1) X1 h1
  exact ⟨Y, by rw [e1, r, show k + 1 + n = k + (n + 1) by omega], h2⟩
end
section
variable {R : List UInt8} {X : XS} {W n : Nat}
def almC : List UInt8 := [151, 15, 0, 0, 147, 128, 207, 3, 115, 144, 80, 48, 55, 65, 0, 2, 35, 34, 1, 0, 131, 161, 15, 64, 35, 32, 49, 0, 19, 2, 0, 8, 115, 16, 66, 48, 115, 80, 4, 48, 111, 0, 0, 0, 0, 0, 0, 0, 0, 0, 0, 0, 0, 0, 0, 0, 0, 0, 0, 0, 19, 5, 21, 0, 111, 0, 0, 0]
def aL (v1 v2 v3 v4 v10 v31 : Nat) : List Nat := [0, v1, v2, v3, v4, 0, 0, 0, 0, 0, v10, 0, 0, 0, 0, 0, 0, 0, 0, 0, 0, 0, 0, 0, 0, 0, 0, 0, 0, 0, 0, v31]
def aB (cmp cmph time : Nat) : BusS := { ram := [], msip := 0, time := time, timeh := 0, cmp := cmp, cmph := cmph, enable := 0, scratch := 0, lost := false, rx := ⟨#[]⟩, tx := ⟨#[]⟩ }
def aC (st ie tv epc cau : Nat) : XCsr := ⟨st, 0, 0, ie, 0, tv, 0, 0, 0, epc, cau, 0, 0, 0, 0, 0, 0, 0, 0, 0, 0, 0, 0⟩
variable {R : List UInt8} {X : XS} {W n : Nat}
theorem mtip_aB (W n : Nat) : mtipD (aB W 0 n) = decide (W <= n) := rfl
theorem pln_aB (W n : Nat) : plnD (aB W 0 n) = 0 := by
 have e : whyD (aB W 0 n) = 1 := by unfold whyD aB; simp
 unfold plnD; rw [e]; rfl
theorem tln_aB (W n : Nat) : tlnD (aB W 0 n) = if W <= n then 128 else 0 := by
 unfold tlnD
 rw [mtip_aB]
 show 0 * 8 ||| _ = _
 by_cases h : W <= n
 . rw [decide_eq_true h, if_pos h]; rfl
 . rw [decide_eq_false h, if_neg h]; rfl
theorem ask_aB (W n : Nat) (t : Nat) : askD ⟨aB W 0 n, aC 8 128 t 0 0, [], 0, 3, false, false, 0⟩ = if W <= n then 128 else 0 := by
 unfold askD penD
 show (0 ||| tlnD (aB W 0 n) ||| plnD (aB W 0 n)) &&& 128 = _
 rw [tln_aB, pln_aB]
 by_cases h : W <= n
 . rw [if_pos h]; rfl
 . rw [if_neg h]; rfl
theorem int_yes : intB (!decide (wout 128 0 = 0)) (!decide (3 = 3)) (bitN 8 3) (!decide (128 &&& 0 = 0)) (decide (3 = 0)) (decide (3 = 1)) (bitN 8 1) (xmuD (wout 128 0)) (xmuD (128 &&& 0)) = 7 := by decide
theorem int_no : intB (!decide (wout 0 0 = 0)) (!decide (3 = 3)) (bitN 8 3) (!decide (0 &&& 0 = 0)) (decide (3 = 0)) (decide (3 = 1)) (bitN 8 1) (xmuD (wout 0 0)) (xmuD (0 &&& 0)) = -1 := by decide
theorem int_aB (W n : Nat) (t : Nat) : intZ (aC 8 128 t 0 0) (aB W 0 n) = if W <= n then 7 else -1 := by
 unfold intZ intD
 rw [ask_aB]
 by_cases h : W <= n
 . rw [if_pos h, if_pos h]
   exact int_yes
 . rw [if_neg h, if_neg h]
   exact int_no
set_option maxRecDepth 100000 in
theorem alm_one (h0 : Qi almC R X (List.replicate 32 0) 0 csr0 dv0) (hW : ldN ((R.drop 1024).take 4) = W) : ∃ Y, (runG 8 0 X).2 = Y /\ Qi almC R Y (aL 2147483708 33570816 W 128 0 2147483648) 32 (aC 0 0 2147483708 0 0) (aB W 0 0) := by
 have q0 : ∀ b, Cm csr0 b := fun b => Cm.of csr0 b rfl rfl
 have q1 : ∀ b, Cm (aC 0 0 2147483708 0 0) b := fun b => Cm.of _ b rfl rfl
 obtain ⟨X1, h1, e1⟩ := (h0.alu (q0 _) ⟨2, 31, 0, 0, 0, 4⟩ (by kernel_rfl) (by decide) 2147483648 (by kernel_rfl)).cast (aL 0 0 0 0 0 2147483648) (by kernel_rfl)
 obtain ⟨X2, h2, e2⟩ := (h1.alu (q0 _) ⟨19, 1, 31, 0, 60, 4⟩ (by kernel_rfl) (by decide) 2147483708 (by kernel_rfl)).cast (aL 2147483708 0 0 0 0 2147483648) (by kernel_rfl)
 obtain ⟨X3, h3, e3⟩ := h2.csrw (q0 _) ⟨61, 0, 1, 0, 773, 4⟩ (by kernel_rfl) (by decide) 2147483708 (by kernel_rfl) (aC 0 0 2147483708 0 0) (by kernel_rfl)
 obtain ⟨X4, h4, e4⟩ := (h3.alu (q1 _) ⟨1, 2, 0, 0, 8196, 4⟩ (by kernel_rfl) (by decide) 33570816 (by kernel_rfl)).cast (aL 2147483708 33570816 0 0 0 2147483648) (by kernel_rfl)
 obtain ⟨X5, h5, e5⟩ := h4.dstore (q1 _) ⟨18, 0, 2, 0, 4, 4⟩ (by kernel_rfl) 33570820 (by decide) (by kernel_rfl) (by kernel_rfl) (by kernel_rfl) 0 (by kernel_rfl) (aB 4294967295 0 0) rfl (fun _ => rfl)
 obtain ⟨X6, h6, e6⟩ := (h5.load (q1 _) ⟨13, 3, 31, 0, 1024, 4⟩ (by kernel_rfl) 1024 (by decide) (by kernel_rfl) W hW).cast (aL 2147483708 33570816 W 0 0 2147483648) (by kernel_rfl)
 obtain ⟨X7, h7, e7⟩ := h6.dstore (q1 _) ⟨18, 0, 2, 3, 0, 4⟩ (by kernel_rfl) 33570816 (by decide) (by kernel_rfl) (by kernel_rfl) (by kernel_rfl) W (by kernel_rfl) (aB W 0 0) rfl (fun _ => rfl)
 obtain ⟨X8, h8, e8⟩ := (h7.alu (q1 _) ⟨19, 4, 0, 0, 128, 4⟩ (by kernel_rfl) (by decide) 128 (by kernel_rfl)).cast (aL 2147483708 33570816 W 128 0 2147483648) (by kernel_rfl)
 exact ⟨X8, by rw [e1, e2, e3, e4, e5, e6, e7, e8]; rfl, h8⟩
theorem alm_tick (h : Qi almC R X (aL 2147483708 33570816 W 128 0 2147483648) 32 (aC 0 0 2147483708 0 0) (aB W 0 0)) (n : Nat) (hn : n <= 4294967295) : Qi almC R { X with b := tickD X.b n } (aL 2147483708 33570816 W 128 0 2147483648) 32 (aC 0 0 2147483708 0 0) (aB W 0 n) := by
 refine ⟨h.len, h.code, h.waits, h.mode, h.ram, h.x, h.pc, h.c, ?_⟩
 show dz (tickD X.b n) = _
 rw [h.bus]
 unfold tickD dz aB
 simp only [BusS.mk.injEq, and_true, true_and]
 omega
set_option maxRecDepth 100000 in
theorem alm_two (h0 : Qi almC R X (aL 2147483708 33570816 W 128 0 2147483648) 32 (aC 0 0 2147483708 0 0) (aB W 0 n)) : ∃ Y, (runG 12 0 X).2 = Y /\ ((W <= n /\ Y.x.getD 10 0 = 1 /\ Y.c.mcause = 2147483655) \/ (¬ W <= n /\ Y.x.getD 10 0 = 0)) := by
 obtain ⟨X1, h1, e1⟩ := h0.csrw (Cm.of _ _ rfl rfl) ⟨61, 0, 4, 0, 772, 4⟩ (by kernel_rfl) (by decide) 128 (by kernel_rfl) (aC 0 128 2147483708 0 0) (by kernel_rfl)
 obtain ⟨X2, h2, e2⟩ := h1.csrw (Cm.of2 _ _ rfl (by decide) rfl) ⟨64, 0, 8, 0, 768, 4⟩ (by kernel_rfl) (by decide) 8 (by kernel_rfl) (aC 8 128 2147483708 0 0) (by kernel_rfl)
 by_cases h : W <= n
 . obtain ⟨X3, h3, e3⟩ := h2.trap (p' := 60) (by rw [int_aB, if_pos h]) (by kernel_rfl) (aC 6272 128 2147483708 2147483688 2147483655) (by kernel_rfl)
   have q : Cm (aC 6272 128 2147483708 2147483688 2147483655) (aB W 0 n) := Cm.of2 _ _ rfl (by decide) (by decide)
   obtain ⟨X4, h4, e4⟩ := (h3.alu q ⟨19, 10, 10, 0, 1, 4⟩ (by kernel_rfl) (by decide) 1 (by kernel_rfl)).cast (aL 2147483708 33570816 W 128 1 2147483648) (by kernel_rfl)
   obtain ⟨Y, r, hy⟩ := Qi.spin (by kernel_rfl) (by decide) q 8 3 X4 h4
   have e := (e1 11 0).trans ((e2 10 1).trans ((e3 9 2).trans ((e4 8 2).trans r)))
   refine ⟨Y, by rw [e], .inl ⟨h, by rw [hy.x]; rfl, ?_⟩⟩
   exact (congrArg XCsr.mcause hy.c : (cz Y.c).mcause = 2147483655)
 . obtain ⟨Y, r, hy⟩ := Qi.spin (by kernel_rfl) (by decide) ⟨by rw [int_aB, if_neg h], by decide⟩ 10 2 X2 h2
   have e := (e1 11 0).trans ((e2 10 1).trans r)
   exact ⟨Y, by rw [e], .inr ⟨h, by rw [hy.x]; rfl⟩⟩
end
section
attribute [local go_sem ↓] Go.wp_at_zero Go.wp_at_succ
theorem k_csrS (mb rb X) (hX : XOk X) (i : Int) (w : World) (hw : XAt w mb rb X) : CK 95 #[.pointer (some ⟨mb, 0, none⟩), .int .i64 i] (.int .i64 ((xcsrE X i).1 : Nat)) w := by
 have R := hide1 (x_Csr mb rb X hX i w (hide1 hw))
 generalize (((xcsrE X i).1 : Nat) : Int) = a at R |-
 generalize (xcsrE X i).2 = b at R
 go_enter func95, ntmps95
 go_wp2_with fail
 refine R.out.mono ?_
 rintro o w1 ⟨rfl, hk⟩
 have K1 := hide1 hk
 clear hk R
 go_wp2_with fail
 go_ret
 exact ⟨rfl, K1.out⟩
structure AlX (X : XS) (a : Int) (W : Nat) (e t : Int) (yes : Bool) (X1 X2 : XS) : Prop where
 r1 : (runG 8 0 X).2 = X1
 ti : (tickU X1.b a).1 = e
 x2 : { X1 with b := (tickU X1.b a).2 } = X2
 hy : decide ((W : Int) <= t) = yes
 on : (runG 12 0 X2).2.x.getD 10 0 = yes.toNat
 mc : yes = true -> (runG 12 0 X2).2.c.mcause = 2147483655
theorem alm_ways {R : List UInt8} {X : XS} (h : Qi almC R X (List.replicate 32 0) 0 csr0 dv0) (W : Nat) (hW : ldN ((R.drop 1024).take 4) = W) (a : Int) : ∃ e t yes X1 X2, AlX X a W e t yes X1 X2 /\ ((e = 0 /\ t = a) \/ (e = 2 /\ t = 0)) /\ (XInv X -> XInv X1 /\ XInv X2) := by
 obtain ⟨X1, r1, h1⟩ := alm_one h hW
 have i1 : XInv X -> XInv X1 := fun hi => by rw [<- r1]; exact run_inv 8 0 X hi
 by_cases ht : 0 <= a /\ a <= 4294967295
 . have et : tickU X1.b a = (0, tickD X1.b a.toNat) := by unfold tickU; rw [if_pos ht]
   have h2 := alm_tick h1 a.toNat (by omega)
   obtain ⟨Y, r2, h3⟩ := alm_two h2
   refine ⟨0, a, decide ((W : Int) <= a), X1, { X1 with b := tickD X1.b a.toNat }, ⟨r1, by rw [et], by rw [et], rfl, ?_, ?_⟩, .inl ⟨rfl, rfl⟩, fun hi => ⟨i1 hi, tick_inv (i1 hi) _⟩⟩
   . exact zp18
   . exact zp19
 . have et : tickU X1.b a = (2, X1.b) := by unfold tickU; rw [if_neg ht]
   obtain ⟨Y, r2, h3⟩ := alm_two h1
   refine ⟨2, 0, decide ((W : Int) <= 0), X1, X1, ⟨r1, by rw [et], by rw [et], rfl, ?_, ?_⟩, .inr ⟨rfl, rfl⟩, fun hi => ⟨i1 hi, i1 hi⟩⟩
   . exact zp18
   . exact zp19
set_option maxRecDepth 100000 in
theorem k_alarmS (a b : Int) (w : World) : CK 43 #[.int .i64 a, .int .i64 b] (.bool true) w := by
 have HB := mask_any b
 go_enter func43, ntmps43
 go_wp2_with fail
 refine (k_builtS almC (by decide) _ (by kernel_rfl) b 0 w).mono ?_
 rintro o w1 ⟨⟨mb, rb, X, rfl, hm⟩, hkp⟩
 obtain ⟨e, t, yes, X1, X2, h, hw, hi⟩ := alm_ways hm.qi (wordN b) (blt_a almC b 0) a
 obtain ⟨i1, i2⟩ := hi hm.inv
 have RN := hide1 (x_Run mb rb X hm.inv 8 (by decide) w1 (hide1 hm.xat))
 rw [h.r1] at RN
 have TK := hide1 (fun W hW => ux_Tick mb rb X1 i1 a W hW)
 rw [h.ti, h.x2] at TK
 have RM := hide1 (fun W hW => x_Run mb rb X2 i2 12 (by decide) W (hide1 hW))
 have i3 := run_inv 12 0 X2 i2
 have on := h.on
 have mc := h.mc
 have hy := h.hy
 have l1 := hm.l1
 have l2 := hm.l2
 have K1 := hide1 hkp
 clear hm hkp h hi i1 i2
 generalize (runG 8 0 X).1 = r8 at RN
 generalize (runG 12 0 X2).1 = r12 at RM
 generalize (runG 12 0 X2).2 = Y at *
 have RG := hide1 (fun W hW => k_regS mb rb Y 10 W hW)
 have g10 : (regU Y.x 10).1 = ((Y.x.getD 10 0 : Nat) : Int) := rfl
 rw [on] at g10
 simp only [g10] at RG
 have CQ := hide1 (fun W hW => k_csrS mb rb Y i3.ok 834 W hW)
 have c10 : (xcsrE Y 834).1 = Y.c.mcause := rfl
 rw [c10] at CQ
 generalize wordN b = W at *
 clear on g10 c10 i3
 go_wp2_with fail
 refine RN.out.mono ?_
 rintro o w2 ⟨rfl, hx, hk⟩
 have M2 := hide1 hx
 have K2 := hide1 (kept_new K1.out hk l1 l2)
 clear hx hk K1 RN
 go_wp2_with fail
 refine (TK.out _ M2.out).mono ?_
 rintro o w3 ⟨rfl, hx, hk⟩
 have M3 := hide1 hx
 have K3 := hide1 (kept_new K2.out hk l1 l2)
 clear hx hk K2 M2 TK
 go_wp2_with fail
 refine (RM.out _ M3.out).mono ?_
 rintro o w4 ⟨rfl, hx, hk⟩
 have M4 := hide1 hx
 have K4 := hide1 (kept_new K3.out hk l1 l2)
 clear hx hk K3 M3 RM
 rcases hw with ⟨rfl, rfl⟩ | ⟨rfl, rfl⟩
 . exact zp20
 . exact zp20
end
end Go.Proofs.YtmlgonbhoknoiabGreatDoor
