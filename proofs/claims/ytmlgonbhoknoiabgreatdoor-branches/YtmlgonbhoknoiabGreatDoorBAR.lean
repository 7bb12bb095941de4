import Derived.Test.YtmlgonbhoknoiabGreatDoorBAQ
set_option maxHeartbeats 8000000
set_option linter.all false
namespace Go.Proofs.YtmlgonbhoknoiabGreatDoor
open Go.RowKit Go.Proofs.Tryz
theorem i_EncW (a0 a1 a2 a3 a4 a5 : Int) (w : World) : Calls prog 87 #[.agg #[.int .i64 a0, .int .i64 a1, .int .i64 a2, .int .i64 a3, .int .i64 a4, .int .i64 a5]] w fun e w' => (∃ v f : Int, e = .returned (.tuple #[.int .i64 v, .int .i64 f])) /\ Below w.heap.size w w' :=
 (i_Encode ⟨a0, a1, a2, a3, a4, a5⟩ w).mono (fun _ _ h => ⟨⟨_, _, h.1⟩, h.2⟩)
theorem i_DecW (x : Int) (w : World) : Calls prog 86 #[.int .i64 x] w fun e w' => (∃ a0 a1 a2 a3 a4 a5 f : Int, e = .returned (.tuple #[.agg #[.int .i64 a0, .int .i64 a1, .int .i64 a2, .int .i64 a3, .int .i64 a4, .int .i64 a5], .int .i64 f])) /\ Below w.heap.size w w' :=
 (i_Decode x w).mono (fun _ _ h => ⟨⟨_, _, _, _, _, _, _, h.1⟩, h.2⟩)
theorem a_TxtW (x : Int) (w : World) (ht : Tb w) : Calls prog 88 #[.int .i64 x] w fun e w' => (∃ (X : ByteArray) (f : Int), e = .returned (.tuple #[.string X, .int .i64 f])) /\ Below w.heap.size w w' :=
 (a_Text' x w (hide1 ht)).mono (fun _ _ h => ⟨⟨_, _, h.1⟩, h.2⟩)
theorem a_AsmW (s : ByteArray) (w : World) : Calls prog 67 #[.string s] w fun e w' => (∃ (X : ByteArray) (er n : Int), e = .returned (.tuple #[.string X, .int .i64 er, .int .i64 n])) /\ Below w.heap.size w w' :=
 (a_Assemble s w).mono (fun _ _ h => ⟨⟨_, _, _, h.1⟩, h.2⟩)
theorem u_LeW (v : Int) (n : Int) (hn : n = 2 \/ n = 4) (w : World) : Calls prog 89 #[.int .i64 v, .int .i64 n] w fun e w' => (∃ X : ByteArray, e = .returned (.string X)) /\ Below w.heap.size w w' := by
 rcases hn with rfl | rfl
 . exact (u_Le v 2 (by decide) w).mono (fun _ _ h => ⟨⟨_, h.1⟩, h.2⟩)
 . exact (u_Le v 4 (by decide) w).mono (fun _ _ h => ⟨⟨_, h.1⟩, h.2⟩)
theorem cells6 {w1 w2 : World} {a0 a1 a2 a3 a4 a5 : Value} {t : Nat} {n : Nat} (h : Below n (w1.alloc (.cells #[a0, a1, a2, a3, a4, a5] t)) w2) (hn : w1.heap.size < n) :
 w2.cell? ⟨w1.heap.size, 0, none⟩ = some a0 /\ w2.cell? ⟨w1.heap.size, 1, none⟩ = some a1 /\ w2.cell? ⟨w1.heap.size, 2, none⟩ = some a2 /\ w2.cell? ⟨w1.heap.size, 3, none⟩ = some a3 /\ w2.cell? ⟨w1.heap.size, 4, none⟩ = some a4 /\ w2.cell? ⟨w1.heap.size, 5, none⟩ = some a5 := by
 refine ⟨(h.cell (p := ⟨w1.heap.size, 0, none⟩) hn).trans ?_, (h.cell (p := ⟨w1.heap.size, 1, none⟩) hn).trans ?_, (h.cell (p := ⟨w1.heap.size, 2, none⟩) hn).trans ?_, (h.cell (p := ⟨w1.heap.size, 3, none⟩) hn).trans ?_, (h.cell (p := ⟨w1.heap.size, 4, none⟩) hn).trans ?_, (h.cell (p := ⟨w1.heap.size, 5, none⟩) hn).trans ?_⟩ <;> simp [go_sem]
theorem lt_of6 {w1 w2 : World} {o : Obj} {n : Nat} (h : Below n (w1.alloc o) w2) : w1.heap.size < w2.heap.size := by
 have := h.size
 simp at this; omega
def SomeB (e : Ending) : Prop := ∃ r, e = .returned (.bool r)
set_option maxRecDepth 100000 in
theorem k_wordW (x : Int) (w : World) (ht : Hid (Tb w)) :
 Calls prog 40 #[.int .i64 x] w fun e w' => SomeB e /\ Below w.heap.size w w' := by
 have hq := eql_ins
 have hn := neq_ins
 go_enter func40, ntmps40
 go_wp2_with fail
 refine (i_DecW x w).mono ?_
 rintro e w1 ⟨⟨i0, i1, i2, i3, i4, i5, er, rfl⟩, hb1⟩
 go_upto_if 71 with fail
 all_goals first
  | (go_ret; exact ⟨⟨_, rfl⟩, hb1.alloc hb1.size _⟩)
  | skip
 all_goals
  go_cut [] from 71 to 104 (fun wx => Hid (Below w.heap.size w wx))
  case first =>
   go_wp2_with (first | (go_at_call 87; refine (i_EncW _ _ _ _ _ _ _).mono ?_; rintro e w2 ⟨⟨v, f, rfl⟩, hb2⟩; have HB2 := hide1 ((hb1.alloc hb1.size _).trans (hb2.mono (hb1.alloc hb1.size _).size)); have HH2 := hide1 hb2; clear hb2) | (go_at_call 86; refine (i_DecW _ _).mono ?_; rintro e w3 ⟨⟨j0, j1, j2, j3, j4, j5, er2, rfl⟩, hb3⟩; have HB3 := hide1 (HB2.out.trans (hb3.mono HB2.out.size)); obtain ⟨y0, y1, y2, y3, y4, y5⟩ := cells6 (HH2.out.trans (hb3.mono HH2.out.size)) (by simp); have yl := lt_of6 (HH2.out.trans (hb3.mono HH2.out.size)); clear hb3 HB2 HH2))
   all_goals first
    | (go_meet; case rel => exact hide1 (hb1.alloc hb1.size _))
    | (go_ret; exact ⟨⟨_, rfl⟩, hb1.alloc hb1.size _⟩)
    | (go_ret; exact ⟨⟨_, rfl⟩, HB2.out⟩)
    | (go_meet; case rel => exact hide1 (HB3.out.alloc HB3.out.size _))
    | (go_ret; exact ⟨⟨_, rfl⟩, HB3.out.alloc HB3.out.size _⟩)
  case rest =>
   clear hb1 hq hn
   go_wp2_with (first | (go_at_call 88; refine (a_TxtW _ _ (ht.out.more hcut.out)).mono ?_; rintro e w2 ⟨⟨X, f, rfl⟩, hb2⟩; have HB2 := hide1 (hcut.out.trans (hb2.mono hcut.out.size)); clear hb2) | (go_at_call 67; refine (a_AsmW _ _).mono ?_; rintro e w3 ⟨⟨Y, f3, n3, rfl⟩, hb3⟩; have HB3 := hide1 (HB2.out.trans (hb3.mono HB2.out.size)); clear hb3) | (go_at_call 89; refine (u_LeW _ _ (by decide) _).mono ?_; rintro e w4 ⟨⟨Z, rfl⟩, hb4⟩; have HB4 := hide1 (HB3.out.trans (hb4.mono HB3.out.size)); clear hb4))
   all_goals
    go_ret
    exact ⟨⟨_, rfl⟩, HB4.out⟩
set_option maxRecDepth 100000 in
theorem k_goldW (k : Nat) (hk : k < 96) (w : World) (ht : Hid (Tb w)) :
 Calls prog 51 #[.int .i64 k] w fun e w' => SomeB e /\ Below w.heap.size w w' := by
 obtain ⟨W, X, hkn⟩ : ∃ (W : Int) (X : ByteArray), CS 100 #[.int .i64 k] (.tuple #[.int .i64 W, .string X]) w := ⟨_, _, k_known k hk w⟩
 have HK := hide1 hkn
 clear hkn
 go_enter func51, ntmps51
 go_wp2_with fail
 refine HK.out.mono ?_
 rintro e w1 ⟨rfl, hw1⟩
 rw [hw1]
 clear hw1 HK
 go_wp2_with (first | (go_at_call 88; refine (a_TxtW _ _ ht.out).mono ?_; rintro e w2 ⟨⟨X2, f, rfl⟩, hb2⟩; have HB2 := hide1 hb2; clear hb2) | (go_at_call 67; refine (a_AsmW _ _).mono ?_; rintro e w3 ⟨⟨Y, f3, n3, rfl⟩, hb3⟩; have HB3 := hide1 (HB2.out.trans (hb3.mono HB2.out.size)); clear hb3) | (go_at_call 89; refine (u_LeW _ _ (by decide) _).mono ?_; rintro e w4 ⟨⟨Z, rfl⟩, hb4⟩; have HB4 := hide1 (HB3.out.trans (hb4.mono HB3.out.size)); clear hb4))
 all_goals
  go_ret
  exact ⟨⟨_, rfl⟩, HB4.out⟩
section
variable {X : XS} {R : List UInt8} {x : List Nat} {p : Nat}
structure Qu (X : XS) (R : List UInt8) (x : List Nat) (p : Nat) : Prop where
 waits : X.waits = false
 mie : X.c.mie = 0
 mode : X.mode = 3
 ms : X.c.mstatus = 0
 ram : X.b.ram = R
 x : X.x = x
 pc : X.pc = 2147483648 + p
def rd2 (R : List UInt8) (p : Nat) : Nat := ldN ((R.drop p).take 2)
def cod (R : List UInt8) (p : Nat) : Nat × (Ins × Int) := (rd2 R p % 4, decodeD ((rd2 R p + rd2 R (p + 2) * 65536 : Nat) : Int))
def setL (x : List Nat) (d v : Nat) : List Nat := if d = 0 then x else x.set d v
variable {X : XS} {R : List UInt8} {x : List Nat} {p : Nat}
theorem Qu.wak (h : Qu X R x p) : wakX X = X := by
 have := h.waits
 cases X; simp only at this; subst this; rfl
theorem Qu.int (h : Qu X R x p) : intD X = -1 := by
 have e : askD X = 0 := by unfold askD; rw [h.mie]; simp
 unfold intD intB wout
 rw [e]; simp
theorem Qu.tr (h : Qu X R x p) (va k : Nat) : trD X.b (xC X) va k = ((va, 0), X.b) := by
 have e : actsD (xC X) k = 3 := by
  unfold actsD xC
  simp only [h.ms, h.mode]
  repeat' split
  all_goals first | rfl | (next q => simp at q)
 unfold trD pgD
 rw [e]; rfl
theorem Qu.half (h : Qu X R x p) (q : Nat) (hq : q + 2 <= R.length) : halfD X.b (xC X) (2147483648 + q) = ((rd2 R q, 0), X.b) := by
 unfold halfD halfP
 rw [h.tr]
 have e : holdsD ((2147483648 + q : Nat) : Int) 2 X.b.ram.length = true := by unfold holdsD; rw [h.ram]; simp; omega
 simp only [e, if_true]
 unfold rdRam rd2
 rw [h.ram, show 2147483648 + q - 2147483648 = q by omega]
theorem Qu.fetch (h : Qu X R x p) (hp : p + 4 <= R.length) (hl : R.length <= 65536) (h3 : rd2 R p % 4 = 3) : fetchD X.b (xC X) X.pc = (⟨rd2 R p + rd2 R (p + 2) * 65536, 0, 0⟩, X.b) := by
 unfold fetchD
 rw [h.pc, show (2147483648 + p + 2) % 4294967296 = 2147483648 + (p + 2) by omega, h.half p (by omega)]
 simp only [h3, if_true]
 rw [h.half (p + 2) (by omega)]
 simp only [if_true]
theorem Qu.step (h : Qu X R x p) (hp : p + 4 <= R.length) (hl : R.length <= 65536) (I : Ins) (h3 : rd2 R p % 4 = 3) (hd : decodeD ((rd2 R p + rd2 R (p + 2) * 65536 : Nat) : Int) = (I, 0)) (Y : XS) (hc : croX X (niOf I) (rd2 R p + rd2 R (p + 2) * 65536) = ((-1, 0), Y)) :
 ∃ m, stepX X = ((0, 0), cntX { Y with pc := npcD X (niOf I) } true m) := by
 have e : insX X = ((niOf I, (-1, 0)), { Y with pc := npcD X (niOf I) }) := by
  unfold insX
  rw [h.fetch hp hl h3]
  simp only [hd, if_true]
  have e : X.withB X.b = X := rfl
  rw [e]
  unfold insR
  rw [hc]; simp
 have e : actX X = ((0, 0, cwrD (niOf I)), { Y with pc := npcD X (niOf I) }) := by
  unfold actX
  rw [if_neg (by rw [h.waits]; simp), h.wak, if_pos h.int, e]
  unfold actE; simp
 unfold stepX
 rw [e]
 exact ⟨_, rfl⟩
structure Same (X Y : XS) : Prop where
 sc : Y.c.mscratch = X.c.mscratch
 rd : Y.resd = X.resd
 rv : Y.resv = X.resv
theorem Same.trans {X Y Z : XS} (h : Same X Y) (g : Same Y Z) : Same X Z := ⟨g.sc.trans h.sc, g.rd.trans h.rd, g.rv.trans h.rv⟩
theorem same_set (X : XS) (d v : Nat) : Same X (setXR X d v) := by unfold setXR; split <;> exact ⟨rfl, rfl, rfl⟩
def Goes (X : XS) (R : List UInt8) (x : List Nat) (p : Nat) : Prop := ∃ Y, Qu Y R x p /\ Same X Y /\ ∀ n r, runG (n + 1) r X = runG n (r + 1) Y
theorem Qu.goesT (h : Qu X R x p) (hp : p + 4 <= R.length) (hl : R.length <= 65536) (I : Ins) (hk : cod R p = (3, (I, 0))) {Y : XS} (hc : croX X (niOf I) (rd2 R p + rd2 R (p + 2) * 65536) = ((-1, 0), Y))
 {R' : List UInt8} {x' : List Nat} {p' : Nat} (hY : Qu { Y with pc := npcD X (niOf I) } R' x' p') : ∃ Z, Qu Z R' x' p' /\ Same Y Z /\ ∀ n r, runG (n + 1) r X = runG n (r + 1) Z := by
 obtain ⟨m, e⟩ := h.step hp hl I (congrArg Prod.fst hk) (congrArg Prod.snd hk) Y hc
 refine ⟨(stepX X).2, ?_, ?_, fun n r => ?_⟩
 . rw [e]; exact ⟨hY.waits, hY.mie, hY.mode, hY.ms, hY.ram, hY.x, hY.pc⟩
 . rw [e]; exact ⟨rfl, rfl, rfl⟩
 . show runG n (if (stepX X).1.1 = 0 then r + 1 else r) (stepX X).2 = _
   rw [e]; rfl
theorem Qu.goes (h : Qu X R x p) (hp : p + 4 <= R.length) (hl : R.length <= 65536) (I : Ins) (hk : cod R p = (3, (I, 0))) {Y : XS} (hc : croX X (niOf I) (rd2 R p + rd2 R (p + 2) * 65536) = ((-1, 0), Y)) (hs : Same X Y)
 {R' : List UInt8} {x' : List Nat} {p' : Nat} (hY : Qu { Y with pc := npcD X (niOf I) } R' x' p') : Goes X R' x' p' := by
 obtain ⟨Z, h1, h2, h3⟩ := h.goesT hp hl I hk hc hY
 exact ⟨Z, h1, hs.trans h2, h3⟩
theorem Goes.cast {x' : List Nat} (h : Goes X R x p) (e : x = x') : Goes X R x' p := e ▸ h
theorem Qu.set (h : Qu X R x p) (d v q : Nat) (p' : Nat) (hq : q = 2147483648 + p') : Qu { setXR X d v with pc := q } R (setL x d v) p' := by
 unfold setXR setL
 split
 . exact ⟨h.waits, h.mie, h.mode, h.ms, h.ram, h.x, hq⟩
 . exact ⟨h.waits, h.mie, h.mode, h.ms, h.ram, by show X.x.set d v = _; rw [h.x], hq⟩
def rsvL (p : Nat) (i : NI) (x : List Nat) : Nat :=
 if i.op = 1 then wordN (i.im * 4096) else if i.op = 2 then wordN (((2147483648 + p : Nat) : Int) + i.im * 4096)
 else if i.op <= 27 then alu i.op (x.getD i.rs1 0) (wordN i.im) else alu i.op (x.getD i.rs1 0) (x.getD i.rs2 0)
theorem Qu.alu (h : Qu X R x p) (hp : p + 4 <= R.length) (hl : R.length <= 65536) (I : Ins) (hk : cod R p = (3, (I, 0))) (ho : xresD I.op = true) (h34 : ¬ (I.op = 3 \/ I.op = 4)) (h4 : I.ln = 4) : Goes X R (setL x I.rd.toNat (rsvL p (niOf I) x)) (p + 4) := by
 have ho' := ho
 unfold xresD at ho'
 simp only [decide_eq_true_eq] at ho'
 have e1 : rsvD X (niOf I) = rsvL p (niOf I) x := by
  unfold rsvD rsvL
  rw [h.x, h.pc]
  have e : (niOf I).op = I.op := rfl
  rw [e, if_neg h34]
 have e2 : npcD X (niOf I) = 2147483648 + (p + 4) := by
  unfold npcD behD
  have e : (niOf I).op = I.op := rfl
  have e' : (niOf I).ln = 4 := by show I.ln.toNat = 4; rw [h4]; rfl
  rw [e, e', if_neg (by omega), if_neg (by omega), if_neg (by omega), if_neg (by omega), h.pc]
  omega
 refine h.goes hp hl I hk (Y := setXR X I.rd.toNat (rsvL p (niOf I) x)) ?_ (same_set _ _ _) (h.set _ _ _ _ e2)
 unfold croX
 rw [if_pos (show xresD (niOf I).op = true from ho), e1]; rfl
end
section
variable {X : XS} {R : List UInt8} {x : List Nat} {p : Nat}
theorem Qu.reach (h : Qu X R x p) (q n k : Nat) (hq : q + n <= R.length) (n1 : 1 <= n) (n4 : n <= 4) (hg : q % 4096 + n <= 4096) : reachD X.b (xC X) (2147483648 + q) n k = (⟨2147483648 + q, n, 0, 0, 0, 0⟩, X.b) := by
 rw [reach_one _ _ _ _ _ (by omega)]
 unfold one1 rpD rpP
 rw [h.tr]
 have e : takesD ((2147483648 + q : Nat) : Int) (n : Nat) X.b.ram.length = true := by
  unfold takesD holdsD; rw [h.ram, if_pos (by simp; omega)]
 simp only [e, if_true]
theorem npc_plain (h : Qu X R x p) (I : Ins) (hp : p + 4 <= 65536) (h4 : I.ln = 4) (ho : 11 <= I.op) (ho2 : ¬ (I.op = 67 \/ I.op = 68)) : npcD X (niOf I) = 2147483648 + (p + 4) := by
 unfold npcD behD
 have e : (niOf I).op = I.op := rfl
 have e' : (niOf I).ln = 4 := by show I.ln.toNat = 4; rw [h4]; rfl
 rw [e, e', if_neg (by omega), if_neg (by omega), if_neg (by omega), if_neg (by omega), h.pc]
 omega
theorem Qu.load (h : Qu X R x p) (hp : p + 4 <= R.length) (hl : R.length <= 65536) (I : Ins) (hk : cod R p = (3, (I, 0))) (ho : 11 <= I.op /\ I.op <= 15) (h4 : I.ln = 4)
 (q : Nat) (hv : wordN ((x.getD I.rs1.toNat 0 : Int) + I.im) = 2147483648 + q) (hq : q + nD I.op <= R.length) (hg : q % 4096 + nD I.op <= 4096) : Goes X R (setL x I.rd.toNat (ldvD I.op (ldN ((R.drop q).take (nD I.op))))) (p + 4) := by
 have hn := nD_le I.op
 have e : (niOf I).op = I.op := rfl
 have hx : ¬ xresD I.op = true := by unfold xresD; simp; omega
 refine h.goes hp hl I hk (Y := setXR X I.rd.toNat (ldvD I.op (ldN ((R.drop q).take (nD I.op))))) ?_ (same_set _ _ _) (h.set _ _ _ _ (npc_plain h I (by omega) h4 ho.1 (by omega)))
 unfold croX
 rw [e, if_neg hx, if_neg (by omega), if_pos ho]
 unfold ldX ldF vaD
 rw [h.x, e, show (niOf I).rs1 = I.rs1.toNat from rfl, show (niOf I).im = I.im from rfl, hv, h.reach q _ 1 hq hn.1 hn.2 hg]
 have hr : loadD X.b ⟨2147483648 + q, nD I.op, 0, 0, 0, 0⟩ = (ldN ((R.drop q).take (nD I.op)), X.b) := by
  unfold loadD readD holdsD rdRam
  simp only [Nat.lt_irrefl, if_false]
  rw [h.ram, if_pos (by simp; omega), show ((((2147483648 + q : Nat) : Int)) - 2147483648).toNat = q by omega, Int.toNat_natCast]
 simp only [hr, if_true]
 rfl
theorem Qu.store (h : Qu X R x p) (hp : p + 4 <= R.length) (hl : R.length <= 65536) (I : Ins) (hk : cod R p = (3, (I, 0))) (ho : 16 <= I.op /\ I.op <= 18) (h4 : I.ln = 4)
 (q : Nat) (hv : wordN ((x.getD I.rs1.toNat 0 : Int) + I.im) = 2147483648 + q) (hq : q + nD I.op <= R.length) (hg : q % 4096 + nD I.op <= 4096) : Goes X (stN R q (nD I.op) (x.getD I.rs2.toNat 0)) x (p + 4) := by
 have hn := nD_le I.op
 have e : (niOf I).op = I.op := rfl
 have hx : ¬ xresD I.op = true := by unfold xresD; simp; omega
 refine h.goes hp hl I hk (Y := X.withB { X.b with ram := stN R q (nD I.op) (x.getD I.rs2.toNat 0) }) ?_ ⟨rfl, rfl, rfl⟩ ⟨h.waits, h.mie, h.mode, h.ms, rfl, h.x, npc_plain h I (by omega) h4 (by omega) (by omega)⟩
 unfold croX
 rw [e, if_neg hx, if_neg (by omega), if_neg (by omega), if_pos ho]
 unfold stX stF vaD
 rw [h.x, e, show (niOf I).rs1 = I.rs1.toNat from rfl, show (niOf I).im = I.im from rfl, hv, h.reach q _ 2 hq hn.1 hn.2 hg]
 have hr : storeD X.b ⟨2147483648 + q, nD I.op, 0, 0, 0, 0⟩ (x.getD (niOf I).rs2 0) = { X.b with ram := stN R q (nD I.op) (x.getD I.rs2.toNat 0) } := by
  unfold storeD writeD holdsD
  simp only [Nat.lt_irrefl, if_false]
  rw [h.ram, if_pos (by simp; omega), show ((((2147483648 + q : Nat) : Int)) - 2147483648).toNat = q by omega, Int.toNat_natCast]
  rfl
 simp only [hr, if_true]
theorem Qu.branch (h : Qu X R x p) (hp : p + 4 <= R.length) (hl : R.length <= 65536) (I : Ins) (hk : cod R p = (3, (I, 0))) (ho : 5 <= I.op /\ I.op <= 10) (h4 : I.ln = 4)
 (p' : Nat) (hy : holds I.op (x.getD I.rs1.toNat 0) (x.getD I.rs2.toNat 0) = true -> wordN ((2147483648 + p : Nat) + I.im) = 2147483648 + p') (hn : holds I.op (x.getD I.rs1.toNat 0) (x.getD I.rs2.toNat 0) = false -> p' = p + 4) : Goes X R x p' := by
 have e : (niOf I).op = I.op := rfl
 have hx : ¬ xresD I.op = true := by unfold xresD; simp; omega
 have hpc : npcD X (niOf I) = 2147483648 + p' := by
  unfold npcD behD
  have e' : (niOf I).ln = 4 := by show I.ln.toNat = 4; rw [h4]; rfl
  rw [e, e', h.x, h.pc, show (niOf I).rs1 = I.rs1.toNat from rfl, show (niOf I).rs2 = I.rs2.toNat from rfl, show (niOf I).im = I.im from rfl]
  cases hb : holds I.op (x.getD I.rs1.toNat 0) (x.getD I.rs2.toNat 0)
  . rw [if_neg (by simp; omega), if_neg (by omega), if_neg (by omega), if_neg (by omega), hn hb]; omega
  . rw [if_pos (.inr ⟨ho, rfl⟩), hy hb]
 refine h.goes hp hl I hk (Y := X) ?_ ⟨rfl, rfl, rfl⟩ ⟨h.waits, h.mie, h.mode, h.ms, h.ram, h.x, hpc⟩
 unfold croX
 rw [e, if_neg hx, if_pos (.inl ho)]
end
section
attribute [local go_sem ↓] Go.wp_at_zero Go.wp_at_succ
def bltR (C : List UInt8) : List UInt8 := laidB (List.replicate 4096 0) 0 C
def bltX (C : List UInt8) (a b : Int) : List UInt8 := laidB (bltR C) 1024 (leA a 4 ++ leA b 4).data.toList
structure BuR (w w' : World) (C : List UInt8) (a b : Int) (mb rb : Nat) (X : XS) : Prop where
 l1 : w.heap.size <= mb
 l2 : w.heap.size <= rb
 xat : XAt w' mb rb X
 inv : XInv X
 len : X.b.ram.length = 4096
 qu : Qu X (bltX C a b) (List.replicate 32 0) 0
 res : X.resd = false
 sc : X.c.mscratch = 0
theorem qu_load {X : XS} {R : List UInt8} {x : List Nat} {p : Nat} (h : Qu X R x p) (hr : X.resd = false /\ X.c.mscratch = 0) (off : Nat) (s : ByteArray) : Qu (loadX X off s) (laidB R off s.data.toList) x p /\ (loadX X off s).resd = false /\ (loadX X off s).c.mscratch = 0 := by
 unfold loadX urwX
 split
 . exact ⟨⟨h.waits, h.mie, h.mode, h.ms, by show laidB X.b.ram _ _ = _; rw [h.ram], h.x, h.pc⟩, rfl, hr.2⟩
 . exact ⟨⟨h.waits, h.mie, h.mode, h.ms, by show laidB X.b.ram _ _ = _; rw [h.ram], h.x, h.pc⟩, hr⟩
set_option maxRecDepth 100000 in
theorem k_builtS (C : List UInt8) (hl : C.length <= 1024) (s : ByteArray) (hC : Byt.asmD s.data.toList = (C, 0, 0)) (a b : Int) (w : World) : Calls prog 90 #[.string s, .int .i64 a, .int .i64 b] w fun e w' => (∃ mb rb X, e = .returned (.pointer (some ⟨mb, 0, none⟩)) /\ BuR w w' C a b mb rb X) /\ Kept [] w w' := by
 have N := hide1 (x_New 4096 (by decide) w)
 have hi0 := new_inv 4096 (by decide)
 have q0 : Qu (newX 4096) (List.replicate 4096 0) (List.replicate 32 0) 0 := ⟨rfl, rfl, rfl, rfl, rfl, rfl, rfl⟩
 have z0 : (newX 4096).b.ram.length = 4096 := by rw [q0.ram]; simp
 have r0 : (newX 4096).resd = false /\ (newX 4096).c.mscratch = 0 := ⟨rfl, rfl⟩
 have HA := fun W => a_Assemble s W
 rw [hC] at HA
 obtain ⟨c, hc⟩ := zn1 (⟨C.toArray⟩ : ByteArray)
 have hcs : c.data.toList = C := by rw [hc]
 have hcz : c.size = C.length := by rw [hc]; rfl
 have hcv : Byt.strV C = .string c := by rw [hc]; rfl
 simp only [hcv] at HA
 obtain ⟨d, hd, hdz, hda⟩ := add_in (leA a 4) (leA b 4) (by rw [leA_size, leA_size]; decide)
 rw [leA_size, leA_size] at hdz
 generalize newX 4096 = X0 at *
 have e1 : loadE X0.b 0 c = 0 := by unfold loadE; rw [z0, if_neg (by omega), if_neg (by omega)]
 have u1 : loadU X0 0 c = loadX X0 0 c := by unfold loadU; rw [if_pos e1]; rfl
 have hi1 := load_inv hi0 0 c
 obtain ⟨q1, r1⟩ := qu_load q0 r0 0 c
 have L1 := hide1 (fun W (hW : XAt W (w.heap.size + 1) w.heap.size X0) => ux_Load (w.heap.size + 1) w.heap.size X0 hi0 0 c W hW)
 rw [hcs] at q1
 have z1 : (loadX X0 0 c).b.ram.length = 4096 := by rw [q1.ram, laidB_length]; simp
 simp only [u1, e1] at L1
 generalize loadX X0 0 c = X1 at *
 have e2 : loadE X1.b 1024 d = 0 := by unfold loadE; rw [z1, if_neg (by omega), if_neg (by omega)]
 have u2 : loadU X1 1024 d = loadX X1 1024 d := by unfold loadU; rw [if_pos e2]; rfl
 have hi2 := load_inv hi1 1024 d
 obtain ⟨q2, r2⟩ := qu_load q1 r1 1024 d
 have L2 := hide1 (fun W (hW : XAt W (w.heap.size + 1) w.heap.size X1) => ux_Load (w.heap.size + 1) w.heap.size X1 hi1 1024 d W hW)
 have z2 : (loadX X1 1024 d).b.ram.length = 4096 := by rw [q2.ram, laidB_length, laidB_length]; simp
 simp only [u2, e2] at L2
 generalize loadX X1 1024 d = X2 at *
 have FIN : Hid (Qu X2 (bltX C a b) (List.replicate 32 0) 0) := hide1 (by rw [hd] at q2; exact q2)
 have HI := hide1 (show XInv X2 /\ X2.b.ram.length = 4096 /\ X2.resd = false /\ X2.c.mscratch = 0 from ⟨hi2, z2, r2⟩)
 replace HA := hide1 HA
 clear hi0 q0 z0 r0 hC hc hcs hcz hcv hd hdz e1 u1 hi1 q1 r1 z1 e2 u2 hi2 q2 r2 z2 hl
 go_enter func90, ntmps90
 go_wp2_with fail
 refine N.out.mono ?_
 rintro o w1 ⟨rfl, hm1, hk1⟩
 have M1 := hide1 hm1
 have K1 := hide1 hk1
 clear N hm1 hk1
 go_wp2_with fail
 refine (HA.out _).mono ?_
 rintro o w2 ⟨rfl, hk2⟩
 have M2 := hide1 (M1.out.kept (Below.kept hk2 []))
 have K2 := hide1 (K1.out.trans (Below.kept hk2 []))
 clear hk2 M1 K1 HA
 go_wp2_with fail
 refine (L1.out _ M2.out).mono ?_
 rintro o w3 ⟨rfl, hm3, hk3⟩
 have M3 := hide1 hm3
 have K3 := hide1 (kept_new K2.out hk3 (by omega) (by omega))
 clear L1 hm3 hk3 M2 K2
 go_wp2_with fail
 refine (v_Le4 a _).mono ?_
 rintro o w4 ⟨rfl, hk4⟩
 have M4 := hide1 (M3.out.kept (Below.kept hk4 []))
 have K4 := hide1 (K3.out.trans (Below.kept hk4 []))
 clear hk4 M3 K3
 go_wp2_with fail
 refine (v_Le4 b _).mono ?_
 rintro o w5 ⟨rfl, hk5⟩
 have M5 := hide1 (M4.out.kept (Below.kept hk5 []))
 have K5 := hide1 (K4.out.trans (Below.kept hk5 []))
 clear hk5 M4 K4
 go_wp2_with fail
 refine (L2.out _ M5.out).mono ?_
 rintro o w6 ⟨rfl, hm6, hk6⟩
 have M6 := hide1 hm6
 have K6 := hide1 (kept_new K5.out hk6 (by omega) (by omega))
 clear L2 hm6 hk6 M5 K5
 go_wp2_with fail
 go_ret
 exact ⟨⟨_, _, _, rfl, ⟨by omega, by omega, M6.out, HI.out.1, HI.out.2.1, FIN.out, HI.out.2.2.1, HI.out.2.2.2⟩⟩, K6.out⟩
end
theorem getD_set (R : List UInt8) (q j : Nat) (c : UInt8) (h : q < R.length) : (R.set q c).getD j 0 = if j = q then c else R.getD j 0 := by
 rw [List.getD_eq_getElem?_getD, List.getD_eq_getElem?_getD, List.getElem?_set]
 by_cases e : q = j
 . subst e; simp [h]
 . rw [if_neg e, if_neg (fun h => e h.symm)]
theorem laidB_getD : ∀ (l R : List UInt8) (off j : Nat), off + l.length <= R.length -> (laidB R off l).getD j 0 = if off <= j /\ j < off + l.length then l.getD (j - off) 0 else R.getD j 0
 | [], R, off, j, _ => by simp only [laidB, List.length_nil]; rw [if_neg (by omega)]
 | c :: l, R, off, j, h => by
  simp only [List.length_cons] at h |-
  simp only [laidB]
  rw [laidB_getD l _ _ j (by rw [List.length_set]; omega), getD_set _ _ _ _ (by omega)]
  by_cases e : j = off
  . subst e; rw [if_neg (by omega), if_pos rfl, if_pos (by omega), Nat.sub_self]; rfl
  . rw [if_neg e]
    by_cases e2 : off + 1 <= j /\ j < off + 1 + l.length
    . rw [if_pos e2, if_pos (by omega), show j - off = (j - (off + 1)) + 1 by omega]; rfl
    . rw [if_neg e2, if_neg (by omega)]
theorem stN_getD : ∀ (n : Nat) (R : List UInt8) (q v j : Nat), q + n <= R.length -> (stN R q n v).getD j 0 = if q <= j /\ j < q + n then UInt8.ofNat (v / 256 ^ (j - q)) else R.getD j 0
 | 0, R, q, v, j, _ => by simp only [stN]; rw [if_neg (by omega)]
 | n + 1, R, q, v, j, h => by
  simp only [stN]
  rw [stN_getD n _ _ _ j (by rw [List.length_set]; omega), getD_set _ _ _ _ (by omega)]
  by_cases e : j = q
  . subst e; rw [if_neg (by omega), if_pos rfl, if_pos (by omega), Nat.sub_self]; simp
  . rw [if_neg e]
    by_cases e2 : q + 1 <= j /\ j < q + 1 + n
    . rw [if_pos e2, if_pos (by omega), show j - q = (j - (q + 1)) + 1 by omega, Nat.div_div_eq_div_mul, Nat.pow_succ, Nat.mul_comm]
    . rw [if_neg e2, if_neg (by omega)]
theorem ldN_step (R : List UInt8) (q n : Nat) (h : q < R.length) : ldN ((R.drop q).take (n + 1)) = (R.getD q 0).toNat + 256 * ldN ((R.drop (q + 1)).take n) := by
 rw [List.drop_eq_getElem_cons h, List.take_succ_cons, ldN, List.getD_eq_getElem?_getD, List.getElem?_eq_getElem h]; rfl
theorem rd2_eq (R : List UInt8) (p : Nat) (h : p + 2 <= R.length) : rd2 R p = (R.getD p 0).toNat + 256 * (R.getD (p + 1) 0).toNat := by
 unfold rd2; rw [ldN_step _ _ _ (by omega), ldN_step _ _ _ (by omega)]; simp [ldN]
theorem ld4_eq (R : List UInt8) (p : Nat) (h : p + 4 <= R.length) : ldN ((R.drop p).take 4) = (R.getD p 0).toNat + 256 * ((R.getD (p + 1) 0).toNat + 256 * ((R.getD (p + 2) 0).toNat + 256 * (R.getD (p + 3) 0).toNat)) := by
 rw [ldN_step _ _ _ (by omega), ldN_step _ _ _ (by omega), ldN_step _ _ _ (by omega), ldN_step _ _ _ (by omega)]; simp [ldN]
theorem cod_eq {R S : List UInt8} (p : Nat) (hR : p + 4 <= R.length) (hS : p + 4 <= S.length) (h : ∀ j, p <= j -> j < p + 4 -> R.getD j 0 = S.getD j 0) : cod R p = cod S p := by
 unfold cod
 rw [rd2_eq R p (by omega), rd2_eq R (p + 2) (by omega), rd2_eq S p (by omega), rd2_eq S (p + 2) (by omega), h p (by omega) (by omega), h (p + 1) (by omega) (by omega), h (p + 2) (by omega) (by omega), h (p + 2 + 1) (by omega) (by omega)]
theorem le_data (v : Int) : (leA v 4).data.toList = [UInt8.ofNat (v % 256).toNat, UInt8.ofNat (v / 256 % 256).toNat, UInt8.ofNat (v / 65536 % 256).toNat, UInt8.ofNat (v / 16777216 % 256).toNat] := by
 unfold leA
 simp [leL, strOfNums]
theorem blt_len (C : List UInt8) (a b : Int) : (bltX C a b).length = 4096 := by unfold bltX bltR; rw [laidB_length, laidB_length, List.length_replicate]
theorem bltR_len (C : List UInt8) : (bltR C).length = 4096 := by unfold bltR; rw [laidB_length, List.length_replicate]
theorem blt_getD (C : List UInt8) (a b : Int) (j : Nat) : (bltX C a b).getD j 0 = if 1024 <= j /\ j < 1032 then (leA a 4 ++ leA b 4).data.toList.getD (j - 1024) 0 else (bltR C).getD j 0 := by
 have e : (leA a 4 ++ leA b 4).data.toList.length = 8 := by rw [Array.length_toList]; show (leA a 4 ++ leA b 4).size = 8; rw [ByteArray.size_append, leA_size, leA_size]
 unfold bltX
 rw [laidB_getD _ _ _ _ (by rw [e, bltR_len]; decide), e]
theorem blt_bytes (a b : Int) : (leA a 4 ++ leA b 4).data.toList = (leA a 4).data.toList ++ (leA b 4).data.toList := zq359
theorem blt_a (C : List UInt8) (a b : Int) : ldN (((bltX C a b).drop 1024).take 4) = wordN a := zq378
theorem blt_b (C : List UInt8) (a b : Int) : ldN (((bltX C a b).drop 1028).take 4) = wordN b := zq378
section
variable {C : List UInt8} {X : XS} {R : List UInt8} {x : List Nat} {p : Nat}
theorem ldv_w (v : Nat) : ldvD 13 v = v := rfl
theorem nd13 : nD 13 = 4 := rfl
structure Rn (C : List UInt8) (X : XS) (R : List UInt8) (x : List Nat) (p : Nat) : Prop where
 q : Qu X R x p
 len : R.length = 4096
 code : ∀ j, j < 1024 -> R.getD j 0 = (bltR C).getD j 0
def Gn (C : List UInt8) (X : XS) (R : List UInt8) (x : List Nat) (p : Nat) : Prop := ∃ Y, Rn C Y R x p /\ Same X Y /\ ∀ n r, runG (n + 1) r X = runG n (r + 1) Y
variable {C : List UInt8} {X : XS} {R : List UInt8} {x : List Nat} {p : Nat}
theorem Rn.of {a b : Int} (h : Qu X (bltX C a b) x p) : Rn C X (bltX C a b) x p := ⟨h, blt_len _ _ _, fun j hj => by rw [blt_getD, if_neg (by omega)]⟩
theorem Rn.cod (h : Rn C X R x p) (hp : p + 4 <= 1024) : cod R p = cod (bltR C) p := cod_eq p (by rw [h.len]; omega) (by rw [bltR_len]; omega) fun j h1 h2 => h.code j (by omega)
theorem Rn.go {R' : List UInt8} {x' : List Nat} {p' : Nat} (h : Rn C X R x p) (hl : R'.length = 4096) (hc : ∀ j, j < 1024 -> R'.getD j 0 = R.getD j 0) (g : Goes X R' x' p') : Gn C X R' x' p' := by
 obtain ⟨Y, h1, hs, h2⟩ := g
 exact ⟨Y, ⟨h1, hl, fun j hj => (hc j hj).trans (h.code j hj)⟩, hs, h2⟩
theorem Gn.cast (h : Gn C X R x p) (x' : List Nat) (e : x = x') : Gn C X R x' p := e ▸ h
theorem Rn.alu (h : Rn C X R x p) (I : Ins) (hk : Go.Proofs.YtmlgonbhoknoiabGreatDoor.cod (bltR C) p = (3, (I, 0))) (ho : (p + 4 <= 1024 /\ xresD I.op = true /\ ¬ (I.op = 3 \/ I.op = 4)) /\ I.ln = 4) (v : Nat) (hv : rsvL p (niOf I) x = v) : Gn C X R (setL x I.rd.toNat v) (p + 4) :=
 h.go h.len (fun _ _ => rfl) (hv ▸ h.q.alu (by rw [h.len]; omega) (by rw [h.len]; decide) I ((h.cod ho.1.1).trans hk) ho.1.2.1 ho.1.2.2 ho.2)
theorem Rn.load (h : Rn C X R x p) (I : Ins) (hk : Go.Proofs.YtmlgonbhoknoiabGreatDoor.cod (bltR C) p = (3, (I, 0))) (q : Nat) (ho : (p + 4 <= 1024 /\ 11 <= I.op /\ I.op <= 15) /\ I.ln = 4 /\ q + nD I.op <= 4096) (hq : wordN ((x.getD I.rs1.toNat 0 : Int) + I.im) = 2147483648 + q) (v : Nat) (hv : ldvD I.op (ldN ((R.drop q).take (nD I.op))) = v) : Gn C X R (setL x I.rd.toNat v) (p + 4) :=
 h.go h.len (fun _ _ => rfl) (hv ▸ h.q.load (by rw [h.len]; omega) (by rw [h.len]; decide) I ((h.cod ho.1.1).trans hk) ho.1.2 ho.2.1 q hq (by rw [h.len]; exact ho.2.2) (by have := nD_le I.op; omega))
theorem Rn.store (h : Rn C X R x p) (I : Ins) (hk : Go.Proofs.YtmlgonbhoknoiabGreatDoor.cod (bltR C) p = (3, (I, 0))) (q : Nat) (ho : (p + 4 <= 1024 /\ 16 <= I.op /\ I.op <= 18) /\ I.ln = 4 /\ q + nD I.op <= 4096 /\ 1024 <= q) (hq : wordN ((x.getD I.rs1.toNat 0 : Int) + I.im) = 2147483648 + q) (v : Nat) (hv : x.getD I.rs2.toNat 0 = v) : Gn C X (stN R q (nD I.op) v) x (p + 4) :=
 h.go (by rw [stN_length, h.len]) (fun j hj => by rw [stN_getD _ _ _ _ _ (by rw [h.len]; exact ho.2.2.1), if_neg (by omega)]) (hv ▸ h.q.store (by rw [h.len]; omega) (by rw [h.len]; decide) I ((h.cod ho.1.1).trans hk) ho.1.2 ho.2.1 q hq (by rw [h.len]; exact ho.2.2.1) (by have := nD_le I.op; omega))
theorem Rn.branch (h : Rn C X R x p) (I : Ins) (hk : Go.Proofs.YtmlgonbhoknoiabGreatDoor.cod (bltR C) p = (3, (I, 0))) (ho : (p + 4 <= 1024 /\ 5 <= I.op /\ I.op <= 10) /\ I.ln = 4) (p' : Nat) (hy : holds I.op (x.getD I.rs1.toNat 0) (x.getD I.rs2.toNat 0) = true -> wordN ((2147483648 + p : Nat) + I.im) = 2147483648 + p') (hn : holds I.op (x.getD I.rs1.toNat 0) (x.getD I.rs2.toNat 0) = false -> p' = p + 4) : Gn C X R x p' :=
 h.go h.len (fun _ _ => rfl) (h.q.branch (by rw [h.len]; omega) (by rw [h.len]; decide) I ((h.cod ho.1.1).trans hk) ho.1.2 ho.2 p' hy hn)
end
section
variable {C : List UInt8} {X : XS} {R R' : List UInt8} {x x' : List Nat} {p p' s : Nat} {r : Option Nat}
def resO (X : XS) : Option Nat := if X.resd = true then some X.resv else none
structure Rs (C : List UInt8) (X : XS) (R : List UInt8) (x : List Nat) (p s : Nat) (r : Option Nat) : Prop where
 n : Rn C X R x p
 sc : X.c.mscratch = s
 rs : resO X = r
def Gs (C : List UInt8) (X : XS) (R : List UInt8) (x : List Nat) (p s : Nat) (r : Option Nat) : Prop := ∃ Y, Rs C Y R x p s r /\ ∀ n k, runG (n + 1) k X = runG n (k + 1) Y
variable {C : List UInt8} {X : XS} {R R' : List UInt8} {x x' : List Nat} {p p' s : Nat} {r : Option Nat}
theorem Same.res {X Y : XS} (h : Same X Y) : resO Y = resO X := by unfold resO; rw [h.rd, h.rv]
theorem Gn.side (g : Gn C X R' x' p') (h : Rs C X R x p s r) : Gs C X R' x' p' s r := by
 obtain ⟨Y, h1, hs, h2⟩ := g
 exact ⟨Y, ⟨h1, hs.sc.trans h.sc, hs.res.trans h.rs⟩, h2⟩
theorem Gs.cast (h : Gs C X R x p s r) (x' : List Nat) (s' : Nat) (e : x = x') (e' : s = s') : Gs C X R x' p s' r := e' ▸ e ▸ h
theorem Rs.go {Y : XS} (h : Rs C X R x p s r) (I : Ins) (hk : Go.Proofs.YtmlgonbhoknoiabGreatDoor.cod (bltR C) p = (3, (I, 0))) (hp : p + 4 <= 1024) (hc : ∀ v, croX X (niOf I) v = ((-1, 0), Y)) (hl : R'.length = 4096) (hs : ∀ j, j < 1024 -> R'.getD j 0 = R.getD j 0)
 (hY : Qu { Y with pc := npcD X (niOf I) } R' x' p') : Gs C X R' x' p' Y.c.mscratch (resO Y) := by
 obtain ⟨Z, h1, h2, h3⟩ := h.n.q.goesT (by rw [h.n.len]; omega) (by rw [h.n.len]; decide) I ((h.n.cod hp).trans hk) (hc _) hY
 exact ⟨Z, ⟨⟨h1, hl, fun j hj => (hs j hj).trans (h.n.code j hj)⟩, h2.sc, h2.res⟩, h3⟩
def csrV (I : Ins) (x : List Nat) (s : Nat) : Nat := if wrcB (niOf I) = true then xchgD I.op s (if I.op <= 63 then x.getD I.rs1.toNat 0 else I.rs1.toNat) else s
theorem Rs.csr (h : Rs C X R x p s r) (I : Ins) (hk : Go.Proofs.YtmlgonbhoknoiabGreatDoor.cod (bltR C) p = (3, (I, 0))) (ho : (p + 4 <= 1024 /\ 61 <= I.op /\ I.op <= 66) /\ I.ln = 4 /\ I.im = 832) (u : Nat) (hu : csrV I x s = u) : Gs C X R (setL x I.rd.toNat s) (p + 4) u r := by
 have hx : ¬ xresD I.op = true := by unfold xresD; simp; omega
 have e : (niOf I).op = I.op := rfl
 have em : (niOf I).im = 832 := ho.2.2
 have er : rcsD X 832 = (s, true) := by
  unfold rcsD
  rw [if_neg (by decide), if_pos (by decide)]
  unfold macD
  simp only [show ((832 : Int) = 768) = False from by decide, show ((832 : Int) = 769) = False from by decide, show ((832 : Int) = 770) = False from by decide, show ((832 : Int) = 771) = False from by decide, show ((832 : Int) = 772) = False from by decide, show ((832 : Int) = 773) = False from by decide, show ((832 : Int) = 774) = False from by decide, show ((832 : Int) = 800) = False from by decide, if_false, if_true]
  rw [h.sc]
 have hm : mayB X (niOf I) = true := by
  unfold mayB mayT
  rw [em, er, h.n.q.mode]
  rfl
 have hc : ∀ v, croX X (niOf I) v = ((-1, 0), ccrX X (niOf I)) := fun v => by
  unfold croX
  rw [e, if_neg hx, if_neg (by omega), if_neg (by omega), if_neg (by omega), if_neg (by omega), if_neg (by omega), if_neg (by omega), if_pos ⟨ho.1.2, hm⟩]
 have ec : ccrX X (niOf I) = { setXR X I.rd.toNat s with c := { (setXR X I.rd.toNat s).c with mscratch := u } } := by
  rw [<- hu]
  unfold ccrX csrV
  rw [em, er, e]
  split
  . unfold wcsX
    rw [if_neg (by decide), if_pos (by decide)]
    unfold writeMachD opdD
    simp only [show ((832 : Int) = 768) = False from by decide, show ((832 : Int) = 770) = False from by decide, show ((832 : Int) = 771) = False from by decide, show ((832 : Int) = 772) = False from by decide, show ((832 : Int) = 773) = False from by decide, show ((832 : Int) = 774) = False from by decide, show ((832 : Int) = 800) = False from by decide, show ((832 : Int) = 836) = False from by decide, if_false, if_true]
    rw [h.n.q.x]
    rfl
  . have e1 := (same_set X I.rd.toNat s).sc.trans h.sc
    show setXR X I.rd.toNat s = _
    generalize setXR X I.rd.toNat s = Z at *
    obtain ⟨zb, zc, _, _, _, _, _, _⟩ := Z
    obtain ⟨⟩ := zc
    simp only at e1
    subst e1
    rfl
 rw [ec] at hc
 have g := h.go (R' := R) (x' := setL x I.rd.toNat s) (p' := p + 4) I hk ho.1.1 hc h.n.len (fun _ _ => rfl) (by
  have := h.n.q.set I.rd.toNat s _ _ (npc_plain h.n.q I (by omega) ho.2.1 (by omega) (by omega))
  exact ⟨this.waits, this.mie, this.mode, this.ms, this.ram, this.x, this.pc⟩)
 have e2 : resO { setXR X I.rd.toNat s with c := { (setXR X I.rd.toNat s).c with mscratch := u } } = r := (show _ = resO (setXR X I.rd.toNat s) from rfl).trans ((same_set X I.rd.toNat s).res.trans h.rs)
 rw [e2] at g
 exact g
end
theorem ldw_of {R : List UInt8} {q v : Nat} (f : ldN ((R.drop q).take 4) = v) : ldvD 13 (ldN ((R.drop q).take (nD 13))) = v := by rw [ldv_w, nd13]; exact f
theorem Rs.of {C : List UInt8} {X : XS} {a b : Int} (h : Qu X (bltX C a b) (List.replicate 32 0) 0) (h1 : X.resd = false) (h2 : X.c.mscratch = 0) : Rs C X (bltX C a b) (List.replicate 32 0) 0 0 none := ⟨Rn.of h, h2, by unfold resO; rw [h1]; rfl⟩
def braC : List UInt8 := [151, 15, 0, 0, 131, 160, 15, 64, 3, 161, 79, 64, 99, 132, 32, 0, 19, 5, 21, 0, 99, 148, 32, 0, 19, 5, 37, 0, 99, 196, 32, 0, 19, 5, 69, 0, 99, 212, 32, 0, 19, 5, 133, 0, 99, 228, 32, 0, 19, 5, 5, 1, 99, 244, 32, 0, 19, 5, 5, 2, 147, 129, 144, 255, 19, 162, 144, 255, 147, 178, 144, 255, 19, 195, 144, 255, 147, 227, 144, 255, 19, 244, 144, 255, 147, 148, 80, 0, 147, 213, 80, 0, 19, 214, 80, 64, 115, 154, 0, 52, 243, 42, 1, 52, 115, 187, 0, 52, 243, 43, 0, 52, 115, 220, 10, 52, 243, 108, 5, 52, 115, 253, 0, 52, 243, 45, 0, 52]
def braL (A B t : Nat) : List Nat := [0, A, B, 0, 0, 0, 0, 0, 0, 0, t, 0, 0, 0, 0, 0, 0, 0, 0, 0, 0, 0, 0, 0, 0, 0, 0, 0, 0, 0, 0, 2147483648]
theorem rsv_imm (p : Nat) (I : Ins) (x : List Nat) (A K v : Nat) (ho : 4 < I.op /\ I.op <= 27) (hx : x.getD I.rs1.toNat 0 = A) (hk : wordN I.im = K) (h : alu I.op A K = v) : rsvL p (niOf I) x = v := by
 unfold rsvL
 rw [show (niOf I).op = I.op from rfl, if_neg (by omega), if_neg (by omega), if_pos ho.2, show (niOf I).rs1 = I.rs1.toNat from rfl, show (niOf I).im = I.im from rfl, hx, hk, h]
def Gs3 (X : XS) (R : List UInt8) (x : List Nat) (p s : Nat) (r : Option Nat) : Prop := ∃ Y, Rs braC Y R x p s r /\ ∀ n k, runG (n + 3) k X = runG n (k + 3) Y
set_option maxRecDepth 100000 in
theorem bra_0 (X : XS) (R : List UInt8) (A B t u v : Nat) (h0 : Rs braC X R (braL A B t) 12 0 none) (y : Bool) (y1 : holds 5 A B = y) (y2 : holds 6 A B = !y) (hu : alu 19 t (wordN 1) = u) (hv : alu 19 t (wordN 2) = v) : Gs3 X R (braL A B (if y = true then v else u)) 28 0 none := by
 cases y
 . obtain ⟨X1, h1, e1⟩ := (h0.n.branch ⟨5, 0, 1, 2, 8, 4⟩ (by kernel_rfl) (by decide) 16 (fun h => by cases (show false = true from y1.symm.trans h)) (fun _ => rfl)).side h0
   obtain ⟨X2, h2, e2⟩ := ((h1.n.alu ⟨19, 10, 10, 0, 1, 4⟩ (by kernel_rfl) (by decide) u hu).cast (braL A B u) (by kernel_rfl)).side h1
   obtain ⟨X3, h3, e3⟩ := (h2.n.branch ⟨6, 0, 1, 2, 8, 4⟩ (by kernel_rfl) (by decide) 28 (fun _ => by kernel_rfl) (fun h => by cases (show true = false from y2.symm.trans h))).side h2
   exact zq379
 . obtain ⟨X1, h1, e1⟩ := (h0.n.branch ⟨5, 0, 1, 2, 8, 4⟩ (by kernel_rfl) (by decide) 20 (fun _ => by kernel_rfl) (fun h => by cases (show true = false from y1.symm.trans h))).side h0
   obtain ⟨X2, h2, e2⟩ := (h1.n.branch ⟨6, 0, 1, 2, 8, 4⟩ (by kernel_rfl) (by decide) 24 (fun h => by cases (show false = true from y2.symm.trans h)) (fun _ => rfl)).side h1
   obtain ⟨X3, h3, e3⟩ := ((h2.n.alu ⟨19, 10, 10, 0, 2, 4⟩ (by kernel_rfl) (by decide) v hv).cast (braL A B v) (by kernel_rfl)).side h2
   exact zq379
set_option maxRecDepth 100000 in
theorem bra_1 (X : XS) (R : List UInt8) (A B t u v : Nat) (h0 : Rs braC X R (braL A B t) 28 0 none) (y : Bool) (y1 : holds 7 A B = y) (y2 : holds 8 A B = !y) (hu : alu 19 t (wordN 4) = u) (hv : alu 19 t (wordN 8) = v) : Gs3 X R (braL A B (if y = true then v else u)) 44 0 none := by
 cases y
 . obtain ⟨X1, h1, e1⟩ := (h0.n.branch ⟨7, 0, 1, 2, 8, 4⟩ (by kernel_rfl) (by decide) 32 (fun h => by cases (show false = true from y1.symm.trans h)) (fun _ => rfl)).side h0
   obtain ⟨X2, h2, e2⟩ := ((h1.n.alu ⟨19, 10, 10, 0, 4, 4⟩ (by kernel_rfl) (by decide) u hu).cast (braL A B u) (by kernel_rfl)).side h1
   obtain ⟨X3, h3, e3⟩ := (h2.n.branch ⟨8, 0, 1, 2, 8, 4⟩ (by kernel_rfl) (by decide) 44 (fun _ => by kernel_rfl) (fun h => by cases (show true = false from y2.symm.trans h))).side h2
   exact zq379
 . obtain ⟨X1, h1, e1⟩ := (h0.n.branch ⟨7, 0, 1, 2, 8, 4⟩ (by kernel_rfl) (by decide) 36 (fun _ => by kernel_rfl) (fun h => by cases (show true = false from y1.symm.trans h))).side h0
   obtain ⟨X2, h2, e2⟩ := (h1.n.branch ⟨8, 0, 1, 2, 8, 4⟩ (by kernel_rfl) (by decide) 40 (fun h => by cases (show false = true from y2.symm.trans h)) (fun _ => rfl)).side h1
   obtain ⟨X3, h3, e3⟩ := ((h2.n.alu ⟨19, 10, 10, 0, 8, 4⟩ (by kernel_rfl) (by decide) v hv).cast (braL A B v) (by kernel_rfl)).side h2
   exact zq379
set_option maxRecDepth 100000 in
theorem bra_2 (X : XS) (R : List UInt8) (A B t u v : Nat) (h0 : Rs braC X R (braL A B t) 44 0 none) (y : Bool) (y1 : holds 9 A B = y) (y2 : holds 10 A B = !y) (hu : alu 19 t (wordN 16) = u) (hv : alu 19 t (wordN 32) = v) : Gs3 X R (braL A B (if y = true then v else u)) 60 0 none := by
 cases y
 . obtain ⟨X1, h1, e1⟩ := (h0.n.branch ⟨9, 0, 1, 2, 8, 4⟩ (by kernel_rfl) (by decide) 48 (fun h => by cases (show false = true from y1.symm.trans h)) (fun _ => rfl)).side h0
   obtain ⟨X2, h2, e2⟩ := ((h1.n.alu ⟨19, 10, 10, 0, 16, 4⟩ (by kernel_rfl) (by decide) u hu).cast (braL A B u) (by kernel_rfl)).side h1
   obtain ⟨X3, h3, e3⟩ := (h2.n.branch ⟨10, 0, 1, 2, 8, 4⟩ (by kernel_rfl) (by decide) 60 (fun _ => by kernel_rfl) (fun h => by cases (show true = false from y2.symm.trans h))).side h2
   exact zq379
 . obtain ⟨X1, h1, e1⟩ := (h0.n.branch ⟨9, 0, 1, 2, 8, 4⟩ (by kernel_rfl) (by decide) 52 (fun _ => by kernel_rfl) (fun h => by cases (show true = false from y1.symm.trans h))).side h0
   obtain ⟨X2, h2, e2⟩ := (h1.n.branch ⟨10, 0, 1, 2, 8, 4⟩ (by kernel_rfl) (by decide) 56 (fun h => by cases (show false = true from y2.symm.trans h)) (fun _ => rfl)).side h1
   obtain ⟨X3, h3, e3⟩ := ((h2.n.alu ⟨19, 10, 10, 0, 32, 4⟩ (by kernel_rfl) (by decide) v hv).cast (braL A B v) (by kernel_rfl)).side h2
   exact zq379
set_option maxRecDepth 100000 in
theorem bra_rest (X : XS) (R : List UInt8) (A B K J t s1 s2 v3 v4 v5 v6 v7 v8 v9 v11 v12 : Nat) (h0 : Rs braC X R (braL A B t) 60 0 none) (hK : wordN (-7) = K) (hJ : wordN 5 = J) (a3 : alu 19 A K = v3) (a4 : alu 20 A K = v4) (a5 : alu 21 A K = v5) (a6 : alu 22 A K = v6) (a7 : alu 23 A K = v7) (a8 : alu 24 A K = v8) (a9 : alu 25 A J = v9) (a11 : alu 26 A J = v11) (a12 : alu 27 A J = v12) (c1 : A ||| B = s1) (c2 : wout s1 A = s2) (n k : Nat) : ∃ Y, runG (n + 17) k X = runG n (k + 17) Y /\ Y.x = [0, A, B, v3, v4, v5, v6, v7, v8, v9, t, v11, v12, 0, 0, 0, 0, 0, 0, 0, 0, A, s1, s2, s2, 21, 31, 30, 0, 0, 0, 2147483648] := by
 obtain ⟨X1, h1, e1⟩ := ((h0.n.alu ⟨19, 3, 1, 0, -7, 4⟩ (by kernel_rfl) (by decide) v3 (rsv_imm _ _ _ A K v3 (by decide) (by kernel_rfl) hK a3)).cast [0, A, B, v3, 0, 0, 0, 0, 0, 0, t, 0, 0, 0, 0, 0, 0, 0, 0, 0, 0, 0, 0, 0, 0, 0, 0, 0, 0, 0, 0, 2147483648] (by kernel_rfl)).side h0
 obtain ⟨X2, h2, e2⟩ := ((h1.n.alu ⟨20, 4, 1, 0, -7, 4⟩ (by kernel_rfl) (by decide) v4 (rsv_imm _ _ _ A K v4 (by decide) (by kernel_rfl) hK a4)).cast [0, A, B, v3, v4, 0, 0, 0, 0, 0, t, 0, 0, 0, 0, 0, 0, 0, 0, 0, 0, 0, 0, 0, 0, 0, 0, 0, 0, 0, 0, 2147483648] (by kernel_rfl)).side h1
 obtain ⟨X3, h3, e3⟩ := ((h2.n.alu ⟨21, 5, 1, 0, -7, 4⟩ (by kernel_rfl) (by decide) v5 (rsv_imm _ _ _ A K v5 (by decide) (by kernel_rfl) hK a5)).cast [0, A, B, v3, v4, v5, 0, 0, 0, 0, t, 0, 0, 0, 0, 0, 0, 0, 0, 0, 0, 0, 0, 0, 0, 0, 0, 0, 0, 0, 0, 2147483648] (by kernel_rfl)).side h2
 obtain ⟨X4, h4, e4⟩ := ((h3.n.alu ⟨22, 6, 1, 0, -7, 4⟩ (by kernel_rfl) (by decide) v6 (rsv_imm _ _ _ A K v6 (by decide) (by kernel_rfl) hK a6)).cast [0, A, B, v3, v4, v5, v6, 0, 0, 0, t, 0, 0, 0, 0, 0, 0, 0, 0, 0, 0, 0, 0, 0, 0, 0, 0, 0, 0, 0, 0, 2147483648] (by kernel_rfl)).side h3
 obtain ⟨X5, h5, e5⟩ := ((h4.n.alu ⟨23, 7, 1, 0, -7, 4⟩ (by kernel_rfl) (by decide) v7 (rsv_imm _ _ _ A K v7 (by decide) (by kernel_rfl) hK a7)).cast [0, A, B, v3, v4, v5, v6, v7, 0, 0, t, 0, 0, 0, 0, 0, 0, 0, 0, 0, 0, 0, 0, 0, 0, 0, 0, 0, 0, 0, 0, 2147483648] (by kernel_rfl)).side h4
 obtain ⟨X6, h6, e6⟩ := ((h5.n.alu ⟨24, 8, 1, 0, -7, 4⟩ (by kernel_rfl) (by decide) v8 (rsv_imm _ _ _ A K v8 (by decide) (by kernel_rfl) hK a8)).cast [0, A, B, v3, v4, v5, v6, v7, v8, 0, t, 0, 0, 0, 0, 0, 0, 0, 0, 0, 0, 0, 0, 0, 0, 0, 0, 0, 0, 0, 0, 2147483648] (by kernel_rfl)).side h5
 obtain ⟨X7, h7, e7⟩ := ((h6.n.alu ⟨25, 9, 1, 0, 5, 4⟩ (by kernel_rfl) (by decide) v9 (rsv_imm _ _ _ A J v9 (by decide) (by kernel_rfl) hJ a9)).cast [0, A, B, v3, v4, v5, v6, v7, v8, v9, t, 0, 0, 0, 0, 0, 0, 0, 0, 0, 0, 0, 0, 0, 0, 0, 0, 0, 0, 0, 0, 2147483648] (by kernel_rfl)).side h6
 obtain ⟨X8, h8, e8⟩ := ((h7.n.alu ⟨26, 11, 1, 0, 5, 4⟩ (by kernel_rfl) (by decide) v11 (rsv_imm _ _ _ A J v11 (by decide) (by kernel_rfl) hJ a11)).cast [0, A, B, v3, v4, v5, v6, v7, v8, v9, t, v11, 0, 0, 0, 0, 0, 0, 0, 0, 0, 0, 0, 0, 0, 0, 0, 0, 0, 0, 0, 2147483648] (by kernel_rfl)).side h7
 obtain ⟨X9, h9, e9⟩ := ((h8.n.alu ⟨27, 12, 1, 0, 5, 4⟩ (by kernel_rfl) (by decide) v12 (rsv_imm _ _ _ A J v12 (by decide) (by kernel_rfl) hJ a12)).cast [0, A, B, v3, v4, v5, v6, v7, v8, v9, t, v11, v12, 0, 0, 0, 0, 0, 0, 0, 0, 0, 0, 0, 0, 0, 0, 0, 0, 0, 0, 2147483648] (by kernel_rfl)).side h8
 obtain ⟨X10, h10, e10⟩ := (h9.csr ⟨61, 20, 1, 0, 832, 4⟩ (by kernel_rfl) (by decide) A (by kernel_rfl)).cast [0, A, B, v3, v4, v5, v6, v7, v8, v9, t, v11, v12, 0, 0, 0, 0, 0, 0, 0, 0, 0, 0, 0, 0, 0, 0, 0, 0, 0, 0, 2147483648] A (by kernel_rfl) rfl
 obtain ⟨X11, h11, e11⟩ := (h10.csr ⟨62, 21, 2, 0, 832, 4⟩ (by kernel_rfl) (by decide) s1 (c1)).cast [0, A, B, v3, v4, v5, v6, v7, v8, v9, t, v11, v12, 0, 0, 0, 0, 0, 0, 0, 0, A, 0, 0, 0, 0, 0, 0, 0, 0, 0, 2147483648] s1 (by kernel_rfl) rfl
 obtain ⟨X12, h12, e12⟩ := (h11.csr ⟨63, 22, 1, 0, 832, 4⟩ (by kernel_rfl) (by decide) s2 (c2)).cast [0, A, B, v3, v4, v5, v6, v7, v8, v9, t, v11, v12, 0, 0, 0, 0, 0, 0, 0, 0, A, s1, 0, 0, 0, 0, 0, 0, 0, 0, 2147483648] s2 (by kernel_rfl) rfl
 obtain ⟨X13, h13, e13⟩ := (h12.csr ⟨62, 23, 0, 0, 832, 4⟩ (by kernel_rfl) (by decide) s2 (by kernel_rfl)).cast [0, A, B, v3, v4, v5, v6, v7, v8, v9, t, v11, v12, 0, 0, 0, 0, 0, 0, 0, 0, A, s1, s2, 0, 0, 0, 0, 0, 0, 0, 2147483648] s2 (by kernel_rfl) rfl
 obtain ⟨X14, h14, e14⟩ := (h13.csr ⟨64, 24, 21, 0, 832, 4⟩ (by kernel_rfl) (by decide) 21 (by kernel_rfl)).cast [0, A, B, v3, v4, v5, v6, v7, v8, v9, t, v11, v12, 0, 0, 0, 0, 0, 0, 0, 0, A, s1, s2, s2, 0, 0, 0, 0, 0, 0, 2147483648] 21 (by kernel_rfl) rfl
 obtain ⟨X15, h15, e15⟩ := (h14.csr ⟨65, 25, 10, 0, 832, 4⟩ (by kernel_rfl) (by decide) 31 (by kernel_rfl)).cast [0, A, B, v3, v4, v5, v6, v7, v8, v9, t, v11, v12, 0, 0, 0, 0, 0, 0, 0, 0, A, s1, s2, s2, 21, 0, 0, 0, 0, 0, 2147483648] 31 (by kernel_rfl) rfl
 obtain ⟨X16, h16, e16⟩ := (h15.csr ⟨66, 26, 1, 0, 832, 4⟩ (by kernel_rfl) (by decide) 30 (by kernel_rfl)).cast [0, A, B, v3, v4, v5, v6, v7, v8, v9, t, v11, v12, 0, 0, 0, 0, 0, 0, 0, 0, A, s1, s2, s2, 21, 31, 0, 0, 0, 0, 2147483648] 30 (by kernel_rfl) rfl
 obtain ⟨X17, h17, e17⟩ := (h16.csr ⟨62, 27, 0, 0, 832, 4⟩ (by kernel_rfl) (by decide) 30 (by kernel_rfl)).cast [0, A, B, v3, v4, v5, v6, v7, v8, v9, t, v11, v12, 0, 0, 0, 0, 0, 0, 0, 0, A, s1, s2, s2, 21, 31, 30, 0, 0, 0, 2147483648] 30 (by kernel_rfl) rfl
 rw [e1, e2, e3, e4, e5, e6, e7, e8, e9, e10, e11, e12, e13, e14, e15, e16, e17]
 exact ⟨X17, rfl, h17.n.q.x⟩
theorem holds_pairs (A B : Nat) : holds 5 A B = decide (A = B) /\ holds 6 A B = !decide (A = B) /\ holds 7 A B = decide (sgn A < sgn B) /\ (holds 8 A B = !decide (sgn A < sgn B)) /\ holds 9 A B = decide (A < B) /\ (holds 10 A B = !decide (A < B)) := by
 refine ⟨rfl, rfl, rfl, ?_, rfl, ?_⟩
 . show decide (sgn B <= sgn A) = _
   by_cases h : sgn A < sgn B
   . rw [decide_eq_true h, decide_eq_false (by omega)]; rfl
   . rw [decide_eq_false h, decide_eq_true (by omega)]; rfl
 . show decide (B <= A) = _
   by_cases h : A < B
   . rw [decide_eq_true h, decide_eq_false (by omega)]; rfl
   . rw [decide_eq_false h, decide_eq_true (by omega)]; rfl
theorem add_small (t d : Nat) (ht : t <= 100) (hd : d <= 100) : alu 19 t (wordN d) = t + d := by
 show (t + wordN d) % 4294967296 = _
 unfold wordN; omega
def stayN (A B : Nat) : Nat := (if decide (A = B) = true then 2 else 1) + (if decide (sgn A < sgn B) = true then 8 else 4) + (if decide (A < B) = true then 32 else 16)
set_option maxRecDepth 100000 in
theorem bra_run (a b : Int) (X : XS) (h : Qu X (bltX braC a b) (List.replicate 32 0) 0) (i1 : X.resd = false) (i2 : X.c.mscratch = 0) (A B K J : Nat) (hA : wordN a = A) (hB : wordN b = B) (hK : wordN (-7) = K) (hJ : wordN 5 = J) : ∃ Y, runG 29 0 X = (29, Y) /\ Y.x = [0, A, B, alu 19 A K, alu 20 A K, alu 21 A K, alu 22 A K, alu 23 A K, alu 24 A K, alu 25 A J, stayN A B, alu 26 A J, alu 27 A J, 0, 0, 0, 0, 0, 0, 0, 0, A, A ||| B, wout (A ||| B) A, wout (A ||| B) A, 21, 31, 30, 0, 0, 0, 2147483648] := by
 have h0 := Rs.of h i1 i2
 have l1 : ldN (((bltX braC a b).drop 1024).take 4) = A := by rw [blt_a, hA]
 have l2 : ldN (((bltX braC a b).drop 1028).take 4) = B := by rw [blt_b, hB]
 generalize bltX braC a b = R at *
 clear h
 obtain ⟨X1, h1, e1⟩ := ((h0.n.alu ⟨2, 31, 0, 0, 0, 4⟩ (by kernel_rfl) (by decide) 2147483648 (by kernel_rfl)).cast [0, 0, 0, 0, 0, 0, 0, 0, 0, 0, 0, 0, 0, 0, 0, 0, 0, 0, 0, 0, 0, 0, 0, 0, 0, 0, 0, 0, 0, 0, 0, 2147483648] (by kernel_rfl)).side h0
 obtain ⟨X2, h2, e2⟩ := ((h1.n.load ⟨13, 1, 31, 0, 1024, 4⟩ (by kernel_rfl) 1024 (by decide) (by kernel_rfl) A (ldw_of l1)).cast [0, A, 0, 0, 0, 0, 0, 0, 0, 0, 0, 0, 0, 0, 0, 0, 0, 0, 0, 0, 0, 0, 0, 0, 0, 0, 0, 0, 0, 0, 0, 2147483648] (by kernel_rfl)).side h1
 obtain ⟨X3, h3, e3⟩ := ((h2.n.load ⟨13, 2, 31, 0, 1028, 4⟩ (by kernel_rfl) 1028 (by decide) (by kernel_rfl) B (ldw_of l2)).cast [0, A, B, 0, 0, 0, 0, 0, 0, 0, 0, 0, 0, 0, 0, 0, 0, 0, 0, 0, 0, 0, 0, 0, 0, 0, 0, 0, 0, 0, 0, 2147483648] (by kernel_rfl)).side h2
 obtain ⟨p5, p6, p7, p8, p9, p10⟩ := holds_pairs A B
 obtain ⟨X4, h4, e4⟩ := bra_0 X3 R A B 0 1 2 h3 _ p5 p6 rfl rfl
 have b4 : (if decide (A = B) = true then 2 else 1) <= 2 := by split <;> omega
 obtain ⟨t4, q4⟩ := zn1 (if decide (A = B) = true then 2 else 1 : Nat)
 rw [<- q4] at h4 b4
 obtain ⟨X5, h5, e5⟩ := bra_1 X4 R A B t4 (t4 + 4) (t4 + 8) h4 _ p7 p8 (add_small t4 4 (by omega) (by decide)) (add_small t4 8 (by omega) (by decide))
 have b5 : (if decide (sgn A < sgn B) = true then t4 + 8 else t4 + 4) = t4 + (if decide (sgn A < sgn B) = true then 8 else 4) := by split <;> rfl
 rw [b5] at h5
 have b5' : t4 + (if decide (sgn A < sgn B) = true then 8 else 4) <= 10 := by split <;> omega
 obtain ⟨t5, q5⟩ := zn1 (t4 + (if decide (sgn A < sgn B) = true then 8 else 4) : Nat)
 rw [<- q5] at h5 b5'
 obtain ⟨X6, h6, e6⟩ := bra_2 X5 R A B t5 (t5 + 16) (t5 + 32) h5 _ p9 p10 (add_small t5 16 (by omega) (by decide)) (add_small t5 32 (by omega) (by decide))
 have b6 : (if decide (A < B) = true then t5 + 32 else t5 + 16) = stayN A B := by unfold stayN; rw [<- q4, <- q5]; split <;> rfl
 rw [b6] at h6
 obtain ⟨Y, r1, r2⟩ := bra_rest X6 R A B K J (stayN A B) _ _ _ _ _ _ _ _ _ _ _ h6 hK hJ rfl rfl rfl rfl rfl rfl rfl rfl rfl rfl rfl 0 12
 exact ⟨Y, by rw [e1, e2, e3, e4, e5, e6, r1]; rfl, r2⟩
end Go.Proofs.YtmlgonbhoknoiabGreatDoor
