import Derived.Test.YthfofjkfbhahoaaGreatDoorXX
import Derived.Test.YthfofjkfbhahoaaGreatDoorXQ
import Derived.Test.YthfofjkfbhahoaaGreatDoorXN
import Derived.Test.YthfofjkfbhahoaaGreatDoorXS
section
namespace Go.Proofs.YthfofjkfbhahoaaGreatDoor
open Go.RowKit
set_option linter.unusedSimpArgs false
def itA (N : ByteArray) (i : Ins) (G : ByteArray) : Value := .agg #[.string N, .int .i64 i.op, .int .i64 i.op, .int .i64 i.rd, .int .i64 i.rs1, .int .i64 i.rs2, .int .i64 i.im, .int .i64 i.ln, .string G, .int .i64 i.ln]
theorem opdP_nil (i : Ins) (g : List UInt8) (c : Nat) : Byt.opdP i g c [] = none := by
  unfold Byt.opdP
  simp only [List.getElem?_nil, Option.getD_none]
  split
  · simp [Byt.opdR, Byt.reg_nil]
  · split
    · simp [Byt.opdM]
    · simp [Byt.isName_nil, Byt.opdN, Byt.number_nil]
theorem number_named (t : List UInt8) (h : Byt.isName t = true) : (Byt.number t).1 = 0 := by
  cases t with
  | nil => decide
  | cons c l =>
    simp only [Byt.isName, Bool.and_eq_true, Bool.not_eq_true', List.all_cons] at h
    obtain ⟨hd, hn, _⟩ := h
    have h45 : ¬ c = 45 := by
      intro e; rw [e] at hn; exact absurd hn (by decide)
    have h48 : ¬ c = 48 := by
      intro e; rw [e] at hd; exact absurd hd (by decide)
    have hx : 10 ≤ Byt.hexv c := by
      unfold Byt.dig at hd
      unfold Byt.hexv
      simp only [Bool.and_eq_false_iff, decide_eq_false_iff_not] at hd
      repeat (first | omega | split)
    unfold Byt.number
    rw [if_neg (by simp [h45])]
    have hp : Byt.plain (c :: l) = none := by
      unfold Byt.plain
      rw [if_neg (by simp [h48])]
      unfold Byt.rdig
      split
      · rfl
      · simp only [Byt.digs]; rw [if_pos hx]
    rw [hp]; rfl
def itC (N : ByteArray) (i : Ins) (G : ByteArray) : Obj := .cells #[.string N, .int .i64 i.op, .int .i64 i.op, .int .i64 i.rd, .int .i64 i.rs1, .int .i64 i.rs2, .int .i64 i.im, .int .i64 i.ln, .string G, .int .i64 i.ln] 140
/-- a block that holds an item -/
structure Ex (w : World) (b : Nat) (N : ByteArray) (i : Ins) (G : ByteArray) : Prop where
  c0 : w.cell? ⟨b, 0, none⟩ = some (.string N)
  c1 : w.cell? ⟨b, 1, none⟩ = some (.int .i64 i.op)
  c2 : w.cell? ⟨b, 2, none⟩ = some (.int .i64 i.op)
  c3 : w.cell? ⟨b, 3, none⟩ = some (.int .i64 i.rd)
  c4 : w.cell? ⟨b, 4, none⟩ = some (.int .i64 i.rs1)
  c5 : w.cell? ⟨b, 5, none⟩ = some (.int .i64 i.rs2)
  c6 : w.cell? ⟨b, 6, none⟩ = some (.int .i64 i.im)
  c7 : w.cell? ⟨b, 7, none⟩ = some (.int .i64 i.ln)
  c8 : w.cell? ⟨b, 8, none⟩ = some (.string G)
  c9 : w.cell? ⟨b, 9, none⟩ = some (.int .i64 i.ln)
  fro : ∀ o, w.frozen? ⟨b, o, none⟩ = false
  lt : b < w.heap.size
theorem Ex.more {w w' : World} {b n : Nat} {N G : ByteArray} {i : Ins} (h : Ex w b N i G) (hb : Below n w w') (hn : b < n) : Ex w' b N i G :=
  ⟨(hb.cell (p := ⟨b, 0, none⟩) hn).trans h.c0, (hb.cell (p := ⟨b, 1, none⟩) hn).trans h.c1, (hb.cell (p := ⟨b, 2, none⟩) hn).trans h.c2, (hb.cell (p := ⟨b, 3, none⟩) hn).trans h.c3, (hb.cell (p := ⟨b, 4, none⟩) hn).trans h.c4, (hb.cell (p := ⟨b, 5, none⟩) hn).trans h.c5, (hb.cell (p := ⟨b, 6, none⟩) hn).trans h.c6, (hb.cell (p := ⟨b, 7, none⟩) hn).trans h.c7, (hb.cell (p := ⟨b, 8, none⟩) hn).trans h.c8, (hb.cell (p := ⟨b, 9, none⟩) hn).trans h.c9, fun o => (hb.frozen (p := ⟨b, o, none⟩) hn).trans (h.fro o), by have := hb.size; have := h.lt; omega⟩
theorem Ex.new (w : World) (N : ByteArray) (i : Ins) (G : ByteArray) : Ex (w.alloc (itC N i G)) w.heap.size N i G := by
  unfold itC
  refine ⟨?_, ?_, ?_, ?_, ?_, ?_, ?_, ?_, ?_, ?_, ?_, ?_⟩ <;> simp
theorem Ex.alloc {w : World} {b : Nat} {N G : ByteArray} {i : Ins} (h : Ex w b N i G) (o : Obj) : Ex (w.alloc o) b N i G := h.more ((Below.refl w.heap.size w).alloc (Nat.le_refl _) o) h.lt
def OpdPost (N : ByteArray) (O : Option (Ins × List UInt8)) (b o : Nat) (L L' : List (List UInt8)) (e : Ending) : Prop := ∃ (j : Ins) (G' : ByteArray) (o' len' cap' : Nat), e = .returned (.tuple #[itA N j G', .slice (some ⟨b, o', none⟩) len' cap', .bool O.isSome]) ∧ Hid (∀ x y, O = some (x, y) → j = x ∧ G' = ⟨y.toArray⟩ ∧ len' = L'.length ∧ len' ≤ cap' ∧ (∀ W, StrsAt W b o L → StrsAt W b o' L'))
theorem opd_fin {O : Option (Ins × List UInt8)} {ok : Bool} {x0 : Ins} {y0 : List UInt8} {G' : ByteArray} (hO : O = if ok = true then some (x0, y0) else none) (hG : G' = ⟨y0.toArray⟩) {b o o1 cap1 : Nat} {L L1 : List (List UInt8)} (hl : L1.length ≤ cap1) (hst : Hid (∀ W, StrsAt W b o L → StrsAt W b o1 L1)) {L' : List (List UInt8)} (hL' : L' = L1) :
    O.isSome = ok ∧ Hid (∀ x y, O = some (x, y) → x0 = x ∧ G' = ⟨y.toArray⟩ ∧ L1.length = L'.length ∧ L1.length ≤ cap1 ∧ ∀ W, StrsAt W b o L → StrsAt W b o1 L') := by
  subst hL'
  cases ok with
  | true =>
    rw [if_pos rfl] at hO
    subst hO
    refine ⟨rfl, hide1 (fun x y h => ?_)⟩
    simp only [Option.some.injEq, Prod.mk.injEq] at h
    obtain ⟨rfl, rfl⟩ := h
    exact ⟨rfl, hG, rfl, hl, hst.out⟩
  | false =>
    rw [if_neg (by decide)] at hO
    subst hO
    exact ⟨rfl, hide1 (fun x y h => by cases h)⟩
theorem opd_reg (i : Ins) (g : List UInt8) (c : Nat) (t : List UInt8) (L1 : List (List UInt8)) (hc : c = 100 ∨ c = 115 ∨ c = 116) (R : Option Nat) (hR : R = Byt.reg t) : Byt.opdP i g c (t :: L1) = if R.isSome = true then some (if c = 100 then { i with rd := ((R.getD 0 : Nat) : Int) } else if c = 115 then { i with rs1 := ((R.getD 0 : Nat) : Int) } else { i with rs2 := ((R.getD 0 : Nat) : Int) }, g) else none := by
  unfold Byt.opdP
  rw [if_pos hc]
  simp only [List.getElem?_cons_zero, Option.getD_some, Byt.opdR]
  rw [← hR]
  cases R with
  | none => rfl
  | some r => rfl
theorem opd_num (i : Ins) (g : List UInt8) (c : Nat) (t : List UInt8) (L1 : List (List UInt8)) (v : Int) (vb : Bool) (hV : (v, vb) = Byt.number t) (hc : c = 117 ∨ c = 105) : Byt.opdP i g c (t :: L1) = if vb = true then some (if c = 117 then { i with rs1 := v } else { i with im := v }, g) else none := by
  unfold Byt.opdP
  rw [if_neg (by omega), if_neg (by omega), if_neg (by omega)]
  simp only [List.getElem?_cons_zero, Option.getD_some, Byt.opdN]
  rw [← hV]
  cases vb <;> rfl
theorem opd_numj (i : Ins) (g : List UInt8) (t : List UInt8) (L1 : List (List UInt8)) (v : Int) (vb : Bool) (hV : (v, vb) = Byt.number t) (hM : false = Byt.isName t) : Byt.opdP i g 106 (t :: L1) = if vb = true then some ({ i with im := v }, g) else none := by
  unfold Byt.opdP
  simp only [List.getElem?_cons_zero, Option.getD_some, Byt.opdN]
  rw [if_neg (by omega), if_neg (by omega), ← hM, if_neg (by simp), ← hV]
  cases vb <;> rfl
theorem opd_nam (i : Ins) (g : List UInt8) (t : List UInt8) (L1 : List (List UInt8)) (v : Int) (vb : Bool) (hV : (v, vb) = Byt.number t) (hM : true = Byt.isName t) (h0 : i.im = 0) : Byt.opdP i g 106 (t :: L1) = if true = true then some ({ i with im := v }, t) else none := by
  have hv : v = 0 := by
    have := number_named t hM.symm
    rw [← hV] at this; exact this
  unfold Byt.opdP
  rw [show ((t :: L1)[0]?.getD []) = t from rfl, if_neg (by omega), if_neg (by omega), if_pos ⟨rfl, hM.symm⟩, if_pos rfl, hv]
  obtain ⟨a1, a2, a3, a4, a5, a6⟩ := i
  simp only at h0
  rw [h0]
theorem opdM_eq (i : Ins) (g : List UInt8) (T : List (List UInt8)) : Byt.opdP i g 109 T = (Byt.opdM i (T[0]?.getD []) (T[1]?.getD []) (T[2]?.getD []) (T[3]?.getD [])).map fun j => (j, g) := by
  unfold Byt.opdP
  rw [if_neg (by omega), if_pos rfl]
theorem opdM_no (i : Ins) (g : List UInt8) (T : List (List UInt8)) (h : ¬ (T[1]?.getD [] = [40] ∧ T[3]?.getD [] = [41] ∧ (Byt.number (T[0]?.getD [])).2 = true)) : Byt.opdP i g 109 T = none := by
  rw [opdM_eq]; unfold Byt.opdM; rw [if_neg h]; rfl
theorem opdM_yes (i : Ins) (g t0 t1 t2 t3 : List UInt8) (L4 : List (List UInt8)) (v : Int) (vb : Bool) (hV : (v, vb) = Byt.number t0) (hvb : vb = true) (h1 : t1 = [40]) (h3 : t3 = [41]) (R : Option Nat) (hR : R = Byt.reg t2) : Byt.opdP i g 109 (t0 :: t1 :: t2 :: t3 :: L4) = if R.isSome = true then some ({ i with im := v, rs1 := ((R.getD 0 : Nat) : Int) }, g) else none := by
  have hv2 : (Byt.number t0).2 = true := by rw [← hV]; exact hvb
  have hv1 : (Byt.number t0).1 = v := by rw [← hV]
  rw [opdM_eq]
  show (Byt.opdM i t0 t1 t2 t3).map _ = _
  unfold Byt.opdM
  rw [if_pos ⟨h1, h3, hv2⟩, ← hR, hv1]
  cases R <;> rfl
set_option maxHeartbeats 8000000 in
theorem u_operand_m (N : ByteArray) (g : List UInt8) (i : Ins) (b o cap : Nat) (t : List UInt8) (L1 : List (List UInt8)) (hL : (t :: L1).length ≤ 5000) (hcap : (t :: L1).length ≤ cap) (w : World) (hw : Hid (StrsAt w b o (t :: L1))) (hb : b < w.heap.size) (hs : Hid (Short (t :: L1))) :
    Calls Tryz.prog 224 #[itA N i ⟨g.toArray⟩, .int .u8 109, .slice (some ⟨b, o, none⟩) (t :: L1).length cap] w fun e w' => OpdPost N (Byt.opdP i g 109 (t :: L1)) b o (t :: L1) ((t :: L1).drop (Byt.cnt 109)) e ∧ Below w.heap.size w w' := by
  obtain ⟨G, hG⟩ : ∃ G : ByteArray, G = ⟨g.toArray⟩ := ⟨_, rfl⟩
  rw [← hG]
  have HG := hide1 hG
  clear hG
  have B2 : Below w.heap.size w ((w.alloc (itC N i G)).alloc (itC ⟨#[]⟩ ins0 ⟨#[]⟩)) := ((Below.refl _ _).alloc (by simp) _).alloc (by simp) _
  have hX : Ex ((w.alloc (itC N i G)).alloc (itC ⟨#[]⟩ ins0 ⟨#[]⟩)) (w.heap.size + 1) ⟨#[]⟩ ins0 ⟨#[]⟩ := by
    have h := Ex.new (w.alloc (itC N i G)) ⟨#[]⟩ ins0 ⟨#[]⟩
    simpa using h
  have hY : Ex ((w.alloc (itC N i G)).alloc (itC ⟨#[]⟩ ins0 ⟨#[]⟩)) w.heap.size N i G := (Ex.new w N i G).alloc _
  have HB := hide1 B2
  have HX := hide1 hX
  have HY := hide1 hY
  unfold itC ins0 at HB HX HY
  clear B2 hX hY
  have hc0 := hw.out 0 (by simp)
  obtain ⟨X0, hX0⟩ : ∃ X : ByteArray, X = ⟨t.toArray⟩ := ⟨_, rfl⟩
  have hc0' : w.cell? ⟨b, o, none⟩ = some (.string X0) := by rw [← Nat.add_zero o, hc0, hX0]; rfl
  have hXt : X0.data.toList = t := by rw [hX0]
  have hst : t.length ≤ 5000 := hs.out t (by simp)
  have s0 : X0.size ≤ 5000 := by rw [hX0]; exact hst
  have HC0 := hide1 hc0'
  have hw2 : Hid (((w.alloc (itC N i G)).alloc (itC ⟨#[]⟩ ins0 ⟨#[]⟩)).cell? ⟨b, o, none⟩ = some (.string X0)) := (HB.out.cell (p := ⟨b, o, none⟩) hb).trans hc0'
  have e0 := hw2.out
  unfold itC ins0 at e0
  have hreg := fun W => u_register X0 W
  have hnum := fun W => u_number X0 s0 W
  have hnam := fun W => u_isName X0 s0 W
  rw [hXt] at hreg hnum hnam
  obtain ⟨R, hR⟩ : ∃ R, R = Byt.reg t := ⟨_, rfl⟩
  obtain ⟨V, hV⟩ : ∃ V, V = Byt.number t := ⟨_, rfl⟩
  obtain ⟨M, hM⟩ : ∃ M, M = Byt.isName t := ⟨_, rfl⟩
  rw [← hR] at hreg
  rw [← hV] at hnum
  rw [← hM] at hnam
  have HREG := hide1 hreg
  have HNUM := hide1 hnum
  have HNAM := hide1 hnam
  have HR := hide1 hR
  have HV := hide1 hV
  have HM := hide1 hM
  have hlen : ((L1.length : Int) + 1 == 0) = false := by simp; omega
  have hlen2 : (L1.length + 1 == 0) = false := by simp
  simp only [List.length_cons] at hL hcap ⊢
  obtain ⟨v, vb⟩ := V
  have HXT := hide1 hX0
  clear hc0 hX0 hc0' hXt hst hw2 hreg hnum hnam hR hV hM
  unfold itA
  cases vb with
  | false =>
    have HNO : Hid (Byt.opdP i g 109 (t :: L1) = none) := opdM_no i g (t :: L1) (fun h => by
      have h2 := h.2.2
      have e : (Byt.number t).2 = false := by rw [← HV.out]
      rw [show ((t :: L1)[0]?.getD []) = t from rfl, e] at h2; cases h2)
    go_enter Tryz.func224, Tryz.ntmps224
    go_wp2_with fail
    refine (HREG.out _).mono ?_
    rintro e w1 ⟨rfl, hb1⟩
    have HB1 := hide1 (HB.out.trans (hb1.mono HB.out.size))
    have hy1 := HY.out.more hb1 (by simp; omega)
    have hx1 := HX.out.more hb1 (by simp)
    have HY1 := hide1 hy1
    have HX1 := hide1 hx1
    have d0 : w1.cell? ⟨b, o, none⟩ = some (.string X0) := (HB1.out.cell (p := ⟨b, o, none⟩) hb).trans HC0.out
    have y0 := hy1.c0
    have y1 := hy1.c1
    have y2 := hy1.c2
    have y3 := hy1.c3
    have y4 := hy1.c4
    have y5 := hy1.c5
    have y6 := hy1.c6
    have y7 := hy1.c7
    have y8 := hy1.c8
    have y9 := hy1.c9
    have yf := hy1.fro
    have yl := hy1.lt
    have z0 := hx1.c0
    have z1 := hx1.c1
    have z2 := hx1.c2
    have z3 := hx1.c3
    have z4 := hx1.c4
    have z5 := hx1.c5
    have z6 := hx1.c6
    have z7 := hx1.c7
    have z8 := hx1.c8
    have z9 := hx1.c9
    have zf := hx1.fro
    have zl := hx1.lt
    clear hy1 hx1 hb1 HY HX HREG
    go_wp2_with fail
    refine (HNUM.out _).mono ?_
    rintro e w2 ⟨rfl, rfl⟩
    go_wp2_with fail
    refine (HNAM.out _).mono ?_
    rintro e w2 ⟨rfl, rfl⟩
    go_wp2
    refine bodyPost_ret (v := .tuple #[itA N i G, .slice (some ⟨b, o, none⟩) (L1.length + 1) cap, .bool false]) (by simp [results, Tryz.results224, go_sem, itA, ins0, y0, y1, y2, y3, y4, y5, y6, y7, y8, y9, yf, yl, z0, z1, z2, z3, z4, z5, z6, z7, z8, z9, zf, zl]) rfl ⟨⟨i, G, o, L1.length + 1, cap, ?_, ?_⟩, ?_⟩
    · rw [HNO.out]; rfl
    · exact hide1 (fun x y h => by rw [HNO.out] at h; cases h)
    · repeat (first | with_reducible exact Below.refl _ _ | with_reducible exact HB.out | with_reducible exact HB1.out | (with_reducible refine Below.setCell ?_ (by simp) _) | (with_reducible refine Below.alloc ?_ (by simp) _) | (with_reducible refine Below.drew ?_))
  | true =>
    by_cases hl4 : L1.length < 3
    · have HNO : Hid (Byt.opdP i g 109 (t :: L1) = none) := opdM_no i g (t :: L1) (fun h => by
        have h2 := h.2.1
        rw [List.getElem?_eq_none (by simp; omega)] at h2; cases h2)
      have hl4' : decide ((L1.length : Int) + 1 < 4) = true := by simp; omega
      have hl4'' : decide (L1.length + 1 < 4) = true := by simp; omega
      go_enter Tryz.func224, Tryz.ntmps224
      go_wp2_with fail
      refine (HREG.out _).mono ?_
      rintro e w1 ⟨rfl, hb1⟩
      have HB1 := hide1 (HB.out.trans (hb1.mono HB.out.size))
      have hy1 := HY.out.more hb1 (by simp; omega)
      have hx1 := HX.out.more hb1 (by simp)
      have HY1 := hide1 hy1
      have HX1 := hide1 hx1
      have d0 : w1.cell? ⟨b, o, none⟩ = some (.string X0) := (HB1.out.cell (p := ⟨b, o, none⟩) hb).trans HC0.out
      have y0 := hy1.c0
      have y1 := hy1.c1
      have y2 := hy1.c2
      have y3 := hy1.c3
      have y4 := hy1.c4
      have y5 := hy1.c5
      have y6 := hy1.c6
      have y7 := hy1.c7
      have y8 := hy1.c8
      have y9 := hy1.c9
      have yf := hy1.fro
      have yl := hy1.lt
      have z0 := hx1.c0
      have z1 := hx1.c1
      have z2 := hx1.c2
      have z3 := hx1.c3
      have z4 := hx1.c4
      have z5 := hx1.c5
      have z6 := hx1.c6
      have z7 := hx1.c7
      have z8 := hx1.c8
      have z9 := hx1.c9
      have zf := hx1.fro
      have zl := hx1.lt
      clear hy1 hx1 hb1 HY HX HREG
      go_wp2_with fail
      refine (HNUM.out _).mono ?_
      rintro e w2 ⟨rfl, rfl⟩
      go_wp2_with fail
      refine (HNAM.out _).mono ?_
      rintro e w2 ⟨rfl, rfl⟩
      go_wp2
      refine bodyPost_ret (v := .tuple #[itA N i G, .slice (some ⟨b, o, none⟩) (L1.length + 1) cap, .bool false]) (by simp [results, Tryz.results224, go_sem, itA, ins0, y0, y1, y2, y3, y4, y5, y6, y7, y8, y9, yf, yl, z0, z1, z2, z3, z4, z5, z6, z7, z8, z9, zf, zl]) rfl ⟨⟨i, G, o, L1.length + 1, cap, ?_, ?_⟩, ?_⟩
      · rw [HNO.out]; rfl
      · exact hide1 (fun x y h => by rw [HNO.out] at h; cases h)
      · repeat (first | with_reducible exact Below.refl _ _ | with_reducible exact HB.out | with_reducible exact HB1.out | (with_reducible refine Below.setCell ?_ (by simp) _) | (with_reducible refine Below.alloc ?_ (by simp) _) | (with_reducible refine Below.drew ?_))
    · match L1, hl4 with
      | t1 :: t2 :: t3 :: L4, _ =>
        have hk1 := hw.out 1 (by simp)
        have hk2 := hw.out 2 (by simp)
        have hk3 := hw.out 3 (by simp)
        obtain ⟨X1, hX1⟩ : ∃ X : ByteArray, X = ⟨t1.toArray⟩ := ⟨_, rfl⟩
        obtain ⟨X2, hX2⟩ : ∃ X : ByteArray, X = ⟨t2.toArray⟩ := ⟨_, rfl⟩
        obtain ⟨X3, hX3⟩ : ∃ X : ByteArray, X = ⟨t3.toArray⟩ := ⟨_, rfl⟩
        have K1 : Hid (w.cell? ⟨b, o + 1, none⟩ = some (.string X1)) := by show _ = _; rw [hk1, hX1]; rfl
        have K2 : Hid (w.cell? ⟨b, o + 2, none⟩ = some (.string X2)) := by show _ = _; rw [hk2, hX2]; rfl
        have K3 : Hid (w.cell? ⟨b, o + 3, none⟩ = some (.string X3)) := by show _ = _; rw [hk3, hX3]; rfl
        have q1 : (X1.toList == [40]) = decide (X1.data.toList = [40]) := eq_lit X1 [40]
        have q3 : (X3.toList == [41]) = decide (X3.data.toList = [41]) := eq_lit X3 [41]
        rw [show X1.data.toList = t1 by rw [hX1]] at q1
        rw [show X3.data.toList = t3 by rw [hX3]] at q3
        have hreg2 := fun W => u_register X2 W
        rw [show X2.data.toList = t2 by rw [hX2]] at hreg2
        obtain ⟨R2, hR2⟩ : ∃ R, R = Byt.reg t2 := ⟨_, rfl⟩
        rw [← hR2] at hreg2
        have HREG2 := hide1 hreg2
        have HR2 := hide1 hR2
        obtain ⟨o4, cap4, hsl4, hcp4, hst4⟩ := slice_drop b o cap (t :: t1 :: t2 :: t3 :: L4) 4 4 rfl (by simp) hcap
        simp only [List.drop_succ_cons, List.drop_zero] at hsl4 hcp4 hst4
        have HST4 := hide1 hst4
        have hl5 : decide ((L4.length : Int) + 1 + 1 + 1 + 1 < 4) = false := by simp <;> omega
        have hl6 : decide (L4.length + 1 + 1 + 1 + 1 < 4) = false := by simp <;> omega
        simp only [List.length_cons] at hL hcap hsl4 hlen hlen2 ⊢
        clear hk1 hk2 hk3 hX1 hX2 hX3 hreg2 hR2 hst4
        by_cases k1 : t1 = [40]
        · rw [decide_eq_true k1] at q1
          by_cases k3 : t3 = [41]
          · rw [decide_eq_true k3] at q3
            have HFIN := hide1 (opd_fin (L' := (t :: t1 :: t2 :: t3 :: L4).drop (Byt.cnt 109)) (opdM_yes i g t t1 t2 t3 L4 v true HV.out rfl k1 k3 R2 HR2.out) HG.out hcp4 HST4 rfl)
            clear k1 k3
            go_enter Tryz.func224, Tryz.ntmps224
            go_wp2_with fail
            refine (HREG.out _).mono ?_
            rintro e w1 ⟨rfl, hb1⟩
            have HB1 := hide1 (HB.out.trans (hb1.mono HB.out.size))
            have hy1 := HY.out.more hb1 (by simp; omega)
            have hx1 := HX.out.more hb1 (by simp)
            have HY1 := hide1 hy1
            have HX1 := hide1 hx1
            have d0 : w1.cell? ⟨b, o, none⟩ = some (.string X0) := (HB1.out.cell (p := ⟨b, o, none⟩) hb).trans HC0.out
            have y0 := hy1.c0
            have y1 := hy1.c1
            have y2 := hy1.c2
            have y3 := hy1.c3
            have y4 := hy1.c4
            have y5 := hy1.c5
            have y6 := hy1.c6
            have y7 := hy1.c7
            have y8 := hy1.c8
            have y9 := hy1.c9
            have yf := hy1.fro
            have yl := hy1.lt
            have z0 := hx1.c0
            have z1 := hx1.c1
            have z2 := hx1.c2
            have z3 := hx1.c3
            have z4 := hx1.c4
            have z5 := hx1.c5
            have z6 := hx1.c6
            have z7 := hx1.c7
            have z8 := hx1.c8
            have z9 := hx1.c9
            have zf := hx1.fro
            have zl := hx1.lt
            clear hy1 hx1 hb1 HY HX HREG
            have d1 : w1.cell? ⟨b, o + 1, none⟩ = some (.string X1) := (HB1.out.cell (p := ⟨b, o + 1, none⟩) hb).trans K1.out
            have d2 : w1.cell? ⟨b, o + 2, none⟩ = some (.string X2) := (HB1.out.cell (p := ⟨b, o + 2, none⟩) hb).trans K2.out
            have d3 : w1.cell? ⟨b, o + 3, none⟩ = some (.string X3) := (HB1.out.cell (p := ⟨b, o + 3, none⟩) hb).trans K3.out
            go_wp2_with fail
            refine (HNUM.out _).mono ?_
            rintro e w2 ⟨rfl, rfl⟩
            go_wp2_with fail
            refine (HNAM.out _).mono ?_
            rintro e w2 ⟨rfl, rfl⟩
            go_wp2_with fail
            refine (HREG2.out _).mono ?_
            rintro e w3 ⟨rfl, hb3⟩
            have HB3 := hide1 (HB1.out.trans (hb3.mono HB1.out.size))
            clear y0 y1 y2 y3 y4 y5 y6 y7 y8 y9 z0 z1 z2 z3 z4 z5 z6 z7 z8 z9 yf yl zf zl
            have hy3 := HY1.out.more hb3 HY1.out.lt
            have hx3 := HX1.out.more hb3 HX1.out.lt
            have y0 := hy3.c0
            have y1 := hy3.c1
            have y2 := hy3.c2
            have y3 := hy3.c3
            have y4 := hy3.c4
            have y5 := hy3.c5
            have y6 := hy3.c6
            have y7 := hy3.c7
            have y8 := hy3.c8
            have y9 := hy3.c9
            have yf := hy3.fro
            have yl := hy3.lt
            have z0 := hx3.c0
            have z1 := hx3.c1
            have z2 := hx3.c2
            have z3 := hx3.c3
            have z4 := hx3.c4
            have z5 := hx3.c5
            have z6 := hx3.c6
            have z7 := hx3.c7
            have z8 := hx3.c8
            have z9 := hx3.c9
            have zf := hx3.fro
            have zl := hx3.lt
            clear hy3 hx3 hb3
            go_upto_region 35 with fail
            go_region_with (fail)
            all_goals go_wp2
            all_goals refine bodyPost_ret (v := .tuple #[itA N { i with im := v, rs1 := ((R2.getD 0 : Nat) : Int) } G, .slice (some ⟨b, o4, none⟩) L4.length cap4, .bool R2.isSome]) (by simp [results, Tryz.results224, go_sem, itA, ins0, y0, y1, y2, y3, y4, y5, y6, y7, y8, y9, yf, yl, z0, z1, z2, z3, z4, z5, z6, z7, z8, z9, zf, zl]) rfl ⟨⟨{ i with im := v, rs1 := ((R2.getD 0 : Nat) : Int) }, G, o4, L4.length, cap4, ?_, ?_⟩, ?_⟩
            all_goals first | (rw [(HFIN.out).1]; done) | exact (HFIN.out).2 | (repeat (first | with_reducible exact Below.refl _ _ | with_reducible exact HB.out | with_reducible exact HB3.out | (with_reducible refine Below.setCell ?_ (by simp) _) | (with_reducible refine Below.alloc ?_ (by simp) _) | (with_reducible refine Below.drew ?_)))
          · rw [decide_eq_false k3] at q3
            have HNO : Hid (Byt.opdP i g 109 (t :: t1 :: t2 :: t3 :: L4) = none) := opdM_no i g _ (fun h => k3 h.2.1)
            clear k1 k3
            go_enter Tryz.func224, Tryz.ntmps224
            go_wp2_with fail
            refine (HREG.out _).mono ?_
            rintro e w1 ⟨rfl, hb1⟩
            have HB1 := hide1 (HB.out.trans (hb1.mono HB.out.size))
            have hy1 := HY.out.more hb1 (by simp; omega)
            have hx1 := HX.out.more hb1 (by simp)
            have HY1 := hide1 hy1
            have HX1 := hide1 hx1
            have d0 : w1.cell? ⟨b, o, none⟩ = some (.string X0) := (HB1.out.cell (p := ⟨b, o, none⟩) hb).trans HC0.out
            have y0 := hy1.c0
            have y1 := hy1.c1
            have y2 := hy1.c2
            have y3 := hy1.c3
            have y4 := hy1.c4
            have y5 := hy1.c5
            have y6 := hy1.c6
            have y7 := hy1.c7
            have y8 := hy1.c8
            have y9 := hy1.c9
            have yf := hy1.fro
            have yl := hy1.lt
            have z0 := hx1.c0
            have z1 := hx1.c1
            have z2 := hx1.c2
            have z3 := hx1.c3
            have z4 := hx1.c4
            have z5 := hx1.c5
            have z6 := hx1.c6
            have z7 := hx1.c7
            have z8 := hx1.c8
            have z9 := hx1.c9
            have zf := hx1.fro
            have zl := hx1.lt
            clear hy1 hx1 hb1 HY HX HREG
            have d1 : w1.cell? ⟨b, o + 1, none⟩ = some (.string X1) := (HB1.out.cell (p := ⟨b, o + 1, none⟩) hb).trans K1.out
            have d2 : w1.cell? ⟨b, o + 2, none⟩ = some (.string X2) := (HB1.out.cell (p := ⟨b, o + 2, none⟩) hb).trans K2.out
            have d3 : w1.cell? ⟨b, o + 3, none⟩ = some (.string X3) := (HB1.out.cell (p := ⟨b, o + 3, none⟩) hb).trans K3.out
            go_wp2_with fail
            refine (HNUM.out _).mono ?_
            rintro e w2 ⟨rfl, rfl⟩
            go_wp2_with fail
            refine (HNAM.out _).mono ?_
            rintro e w2 ⟨rfl, rfl⟩
            go_wp2
            refine bodyPost_ret (v := .tuple #[itA N i G, .slice (some ⟨b, o, none⟩) (L4.length + 1 + 1 + 1 + 1) cap, .bool false]) (by simp [results, Tryz.results224, go_sem, itA, ins0, y0, y1, y2, y3, y4, y5, y6, y7, y8, y9, yf, yl, z0, z1, z2, z3, z4, z5, z6, z7, z8, z9, zf, zl]) rfl ⟨⟨i, G, o, L4.length + 1 + 1 + 1 + 1, cap, ?_, ?_⟩, ?_⟩
            · rw [HNO.out]; rfl
            · exact hide1 (fun x y h => by rw [HNO.out] at h; cases h)
            · repeat (first | with_reducible exact Below.refl _ _ | with_reducible exact HB.out | with_reducible exact HB1.out | (with_reducible refine Below.setCell ?_ (by simp) _) | (with_reducible refine Below.alloc ?_ (by simp) _) | (with_reducible refine Below.drew ?_))
        · rw [decide_eq_false k1] at q1
          have HNO : Hid (Byt.opdP i g 109 (t :: t1 :: t2 :: t3 :: L4) = none) := opdM_no i g _ (fun h => k1 h.1)
          clear k1
          go_enter Tryz.func224, Tryz.ntmps224
          go_wp2_with fail
          refine (HREG.out _).mono ?_
          rintro e w1 ⟨rfl, hb1⟩
          have HB1 := hide1 (HB.out.trans (hb1.mono HB.out.size))
          have hy1 := HY.out.more hb1 (by simp; omega)
          have hx1 := HX.out.more hb1 (by simp)
          have HY1 := hide1 hy1
          have HX1 := hide1 hx1
          have d0 : w1.cell? ⟨b, o, none⟩ = some (.string X0) := (HB1.out.cell (p := ⟨b, o, none⟩) hb).trans HC0.out
          have y0 := hy1.c0
          have y1 := hy1.c1
          have y2 := hy1.c2
          have y3 := hy1.c3
          have y4 := hy1.c4
          have y5 := hy1.c5
          have y6 := hy1.c6
          have y7 := hy1.c7
          have y8 := hy1.c8
          have y9 := hy1.c9
          have yf := hy1.fro
          have yl := hy1.lt
          have z0 := hx1.c0
          have z1 := hx1.c1
          have z2 := hx1.c2
          have z3 := hx1.c3
          have z4 := hx1.c4
          have z5 := hx1.c5
          have z6 := hx1.c6
          have z7 := hx1.c7
          have z8 := hx1.c8
          have z9 := hx1.c9
          have zf := hx1.fro
          have zl := hx1.lt
          clear hy1 hx1 hb1 HY HX HREG
          have d1 : w1.cell? ⟨b, o + 1, none⟩ = some (.string X1) := (HB1.out.cell (p := ⟨b, o + 1, none⟩) hb).trans K1.out
          have d2 : w1.cell? ⟨b, o + 2, none⟩ = some (.string X2) := (HB1.out.cell (p := ⟨b, o + 2, none⟩) hb).trans K2.out
          have d3 : w1.cell? ⟨b, o + 3, none⟩ = some (.string X3) := (HB1.out.cell (p := ⟨b, o + 3, none⟩) hb).trans K3.out
          go_wp2_with fail
          refine (HNUM.out _).mono ?_
          rintro e w2 ⟨rfl, rfl⟩
          go_wp2_with fail
          refine (HNAM.out _).mono ?_
          rintro e w2 ⟨rfl, rfl⟩
          go_wp2
          refine bodyPost_ret (v := .tuple #[itA N i G, .slice (some ⟨b, o, none⟩) (L4.length + 1 + 1 + 1 + 1) cap, .bool false]) (by simp [results, Tryz.results224, go_sem, itA, ins0, y0, y1, y2, y3, y4, y5, y6, y7, y8, y9, yf, yl, z0, z1, z2, z3, z4, z5, z6, z7, z8, z9, zf, zl]) rfl ⟨⟨i, G, o, L4.length + 1 + 1 + 1 + 1, cap, ?_, ?_⟩, ?_⟩
          · rw [HNO.out]; rfl
          · exact hide1 (fun x y h => by rw [HNO.out] at h; cases h)
          · repeat (first | with_reducible exact Below.refl _ _ | with_reducible exact HB.out | with_reducible exact HB1.out | (with_reducible refine Below.setCell ?_ (by simp) _) | (with_reducible refine Below.alloc ?_ (by simp) _) | (with_reducible refine Below.drew ?_))
      | [], h => exact absurd (by simp) h
      | [_], h => exact absurd (by simp) h
      | [_, _], h => exact absurd (by simp) h
set_option maxHeartbeats 4000000 in
theorem u_operand_x (N : ByteArray) (g : List UInt8) (i : Ins) (c : Nat) (hc : c = 100 ∨ c = 115 ∨ c = 116 ∨ c = 109 ∨ c = 106 ∨ c = 117 ∨ c = 105) (hj : c = 106 → i.im = 0) (b o cap : Nat) (L : List (List UInt8)) (hm : ¬ c = 109 ∨ L = []) (hL : L.length ≤ 5000) (hcap : L.length ≤ cap) (w : World) (hw : Hid (StrsAt w b o L)) (hb : b < w.heap.size) (hs : Hid (Short L)) :
    Calls Tryz.prog 224 #[itA N i ⟨g.toArray⟩, .int .u8 c, .slice (some ⟨b, o, none⟩) L.length cap] w fun e w' => OpdPost N (Byt.opdP i g c L) b o L (L.drop (Byt.cnt c)) e ∧ Below w.heap.size w w' := by
  obtain ⟨G, hG⟩ : ∃ G : ByteArray, G = ⟨g.toArray⟩ := ⟨_, rfl⟩
  rw [← hG]
  have HG := hide1 hG
  have HJ := hide1 hj
  have HMM := hide1 hm
  clear hG hj hm
  have B2 : Below w.heap.size w ((w.alloc (itC N i G)).alloc (itC ⟨#[]⟩ ins0 ⟨#[]⟩)) := ((Below.refl _ _).alloc (by simp) _).alloc (by simp) _
  have hX : Ex ((w.alloc (itC N i G)).alloc (itC ⟨#[]⟩ ins0 ⟨#[]⟩)) (w.heap.size + 1) ⟨#[]⟩ ins0 ⟨#[]⟩ := by
    have h := Ex.new (w.alloc (itC N i G)) ⟨#[]⟩ ins0 ⟨#[]⟩
    simpa using h
  have hY : Ex ((w.alloc (itC N i G)).alloc (itC ⟨#[]⟩ ins0 ⟨#[]⟩)) w.heap.size N i G := (Ex.new w N i G).alloc _
  have HB := hide1 B2
  have HX := hide1 hX
  have HY := hide1 hY
  unfold itC ins0 at HB HX HY
  clear B2 hX hY
  cases L with
  | nil =>
    rw [opdP_nil]
    unfold itA
    go_enter Tryz.func224, Tryz.ntmps224
    go_wp2
    refine bodyPost_ret (v := .tuple #[itA N i G, .slice (some ⟨b, o, none⟩) 0 cap, .bool false]) (by simp [results, Tryz.results224, go_sem, itA, ins0]) rfl ⟨⟨i, G, o, 0, cap, rfl, hide1 (fun x y h => by cases h)⟩, ?_⟩
    repeat (first | with_reducible exact Below.refl _ _ | with_reducible exact HB.out | with_reducible exact HB1.out | (with_reducible refine Below.setCell ?_ (by simp) _) | (with_reducible refine Below.alloc ?_ (by simp) _) | (with_reducible refine Below.drew ?_))
  | cons t L1 =>
    have hc0 := hw.out 0 (by simp)
    obtain ⟨X0, hX0⟩ : ∃ X : ByteArray, X = ⟨t.toArray⟩ := ⟨_, rfl⟩
    have hc0' : w.cell? ⟨b, o, none⟩ = some (.string X0) := by rw [← Nat.add_zero o, hc0, hX0]; rfl
    have hXt : X0.data.toList = t := by rw [hX0]
    have hst : t.length ≤ 5000 := hs.out t (by simp)
    have s0 : X0.size ≤ 5000 := by rw [hX0]; exact hst
    have HC0 := hide1 hc0'
    have hw2 : Hid (((w.alloc (itC N i G)).alloc (itC ⟨#[]⟩ ins0 ⟨#[]⟩)).cell? ⟨b, o, none⟩ = some (.string X0)) := (HB.out.cell (p := ⟨b, o, none⟩) hb).trans hc0'
    have e0 := hw2.out
    unfold itC ins0 at e0
    have hreg := fun W => u_register X0 W
    have hnum := fun W => u_number X0 s0 W
    have hnam := fun W => u_isName X0 s0 W
    rw [hXt] at hreg hnum hnam
    obtain ⟨o1, cap1, hsl1, hcp1, hst1⟩ := slice_drop b o cap (t :: L1) 1 1 rfl (by simp) hcap
    simp only [List.drop_succ_cons, List.drop_zero] at hsl1 hcp1 hst1
    obtain ⟨R, hR⟩ : ∃ R, R = Byt.reg t := ⟨_, rfl⟩
    obtain ⟨V, hV⟩ : ∃ V, V = Byt.number t := ⟨_, rfl⟩
    obtain ⟨M, hM⟩ : ∃ M, M = Byt.isName t := ⟨_, rfl⟩
    rw [← hR] at hreg
    rw [← hV] at hnum
    rw [← hM] at hnam
    have HREG := hide1 hreg
    have HNUM := hide1 hnum
    have HNAM := hide1 hnam
    have HR := hide1 hR
    have HV := hide1 hV
    have HM := hide1 hM
    have HST1 := hide1 hst1
    have hlen : ((L1.length : Int) + 1 == 0) = false := by simp; omega
    have hlen2 : (L1.length + 1 == 0) = false := by simp
    simp only [List.length_cons] at hL hcap hsl1 ⊢
    obtain ⟨v, vb⟩ := V
    have HXT := hide1 hX0
    clear hc0 hX0 hc0' hXt hst hw2 hreg hnum hnam hR hV hM hst1
    unfold itA
    rcases hc with rfl | rfl | rfl | rfl | rfl | rfl | rfl
    · go_enter Tryz.func224, Tryz.ntmps224
      go_wp2_with fail
      refine (HREG.out _).mono ?_
      rintro e w1 ⟨rfl, hb1⟩
      have HB1 := hide1 (HB.out.trans (hb1.mono HB.out.size))
      have hy1 := HY.out.more hb1 (by simp; omega)
      have hx1 := HX.out.more hb1 (by simp)
      have d0 : w1.cell? ⟨b, o, none⟩ = some (.string X0) := (HB1.out.cell (p := ⟨b, o, none⟩) hb).trans HC0.out
      have y0 := hy1.c0
      have y1 := hy1.c1
      have y2 := hy1.c2
      have y3 := hy1.c3
      have y4 := hy1.c4
      have y5 := hy1.c5
      have y6 := hy1.c6
      have y7 := hy1.c7
      have y8 := hy1.c8
      have y9 := hy1.c9
      have yf := hy1.fro
      have yl := hy1.lt
      have z0 := hx1.c0
      have z1 := hx1.c1
      have z2 := hx1.c2
      have z3 := hx1.c3
      have z4 := hx1.c4
      have z5 := hx1.c5
      have z6 := hx1.c6
      have z7 := hx1.c7
      have z8 := hx1.c8
      have z9 := hx1.c9
      have zf := hx1.fro
      have zl := hx1.lt
      clear hy1 hx1 hb1 HY HX HREG
      go_wp2_with fail
      refine (HNUM.out _).mono ?_
      rintro e w2 ⟨rfl, rfl⟩
      go_wp2_with fail
      refine (HNAM.out _).mono ?_
      rintro e w2 ⟨rfl, rfl⟩
      go_upto_region 36 with fail
      go_region_with (fail)
      all_goals go_wp2
      all_goals refine bodyPost_ret (v := .tuple #[itA N { i with rd := ((R.getD 0 : Nat) : Int) } G, .slice (some ⟨b, o1, none⟩) L1.length cap1, .bool R.isSome]) (by simp [results, Tryz.results224, go_sem, itA, ins0, y0, y1, y2, y3, y4, y5, y6, y7, y8, y9, yf, yl, z0, z1, z2, z3, z4, z5, z6, z7, z8, z9, zf, zl]) rfl ⟨⟨{ i with rd := ((R.getD 0 : Nat) : Int) }, G, o1, L1.length, cap1, ?_, ?_⟩, ?_⟩
      all_goals first | (rw [(opd_fin (opd_reg i g 100 t L1 (.inl rfl) R HR.out) HG.out hcp1 HST1 rfl).1]; done) | exact (opd_fin (opd_reg i g 100 t L1 (.inl rfl) R HR.out) HG.out hcp1 HST1 rfl).2 | (repeat (first | with_reducible exact Below.refl _ _ | with_reducible exact HB.out | with_reducible exact HB1.out | (with_reducible refine Below.setCell ?_ (by simp) _) | (with_reducible refine Below.alloc ?_ (by simp) _) | (with_reducible refine Below.drew ?_)))
    · go_enter Tryz.func224, Tryz.ntmps224
      go_wp2_with fail
      refine (HREG.out _).mono ?_
      rintro e w1 ⟨rfl, hb1⟩
      have HB1 := hide1 (HB.out.trans (hb1.mono HB.out.size))
      have hy1 := HY.out.more hb1 (by simp; omega)
      have hx1 := HX.out.more hb1 (by simp)
      have d0 : w1.cell? ⟨b, o, none⟩ = some (.string X0) := (HB1.out.cell (p := ⟨b, o, none⟩) hb).trans HC0.out
      have y0 := hy1.c0
      have y1 := hy1.c1
      have y2 := hy1.c2
      have y3 := hy1.c3
      have y4 := hy1.c4
      have y5 := hy1.c5
      have y6 := hy1.c6
      have y7 := hy1.c7
      have y8 := hy1.c8
      have y9 := hy1.c9
      have yf := hy1.fro
      have yl := hy1.lt
      have z0 := hx1.c0
      have z1 := hx1.c1
      have z2 := hx1.c2
      have z3 := hx1.c3
      have z4 := hx1.c4
      have z5 := hx1.c5
      have z6 := hx1.c6
      have z7 := hx1.c7
      have z8 := hx1.c8
      have z9 := hx1.c9
      have zf := hx1.fro
      have zl := hx1.lt
      clear hy1 hx1 hb1 HY HX HREG
      go_wp2_with fail
      refine (HNUM.out _).mono ?_
      rintro e w2 ⟨rfl, rfl⟩
      go_wp2_with fail
      refine (HNAM.out _).mono ?_
      rintro e w2 ⟨rfl, rfl⟩
      go_upto_region 36 with fail
      go_region_with (fail)
      all_goals go_wp2
      all_goals refine bodyPost_ret (v := .tuple #[itA N { i with rs1 := ((R.getD 0 : Nat) : Int) } G, .slice (some ⟨b, o1, none⟩) L1.length cap1, .bool R.isSome]) (by simp [results, Tryz.results224, go_sem, itA, ins0, y0, y1, y2, y3, y4, y5, y6, y7, y8, y9, yf, yl, z0, z1, z2, z3, z4, z5, z6, z7, z8, z9, zf, zl]) rfl ⟨⟨{ i with rs1 := ((R.getD 0 : Nat) : Int) }, G, o1, L1.length, cap1, ?_, ?_⟩, ?_⟩
      all_goals first | (rw [(opd_fin (opd_reg i g 115 t L1 (.inr (.inl rfl)) R HR.out) HG.out hcp1 HST1 rfl).1]; done) | exact (opd_fin (opd_reg i g 115 t L1 (.inr (.inl rfl)) R HR.out) HG.out hcp1 HST1 rfl).2 | (repeat (first | with_reducible exact Below.refl _ _ | with_reducible exact HB.out | with_reducible exact HB1.out | (with_reducible refine Below.setCell ?_ (by simp) _) | (with_reducible refine Below.alloc ?_ (by simp) _) | (with_reducible refine Below.drew ?_)))
    · go_enter Tryz.func224, Tryz.ntmps224
      go_wp2_with fail
      refine (HREG.out _).mono ?_
      rintro e w1 ⟨rfl, hb1⟩
      have HB1 := hide1 (HB.out.trans (hb1.mono HB.out.size))
      have hy1 := HY.out.more hb1 (by simp; omega)
      have hx1 := HX.out.more hb1 (by simp)
      have d0 : w1.cell? ⟨b, o, none⟩ = some (.string X0) := (HB1.out.cell (p := ⟨b, o, none⟩) hb).trans HC0.out
      have y0 := hy1.c0
      have y1 := hy1.c1
      have y2 := hy1.c2
      have y3 := hy1.c3
      have y4 := hy1.c4
      have y5 := hy1.c5
      have y6 := hy1.c6
      have y7 := hy1.c7
      have y8 := hy1.c8
      have y9 := hy1.c9
      have yf := hy1.fro
      have yl := hy1.lt
      have z0 := hx1.c0
      have z1 := hx1.c1
      have z2 := hx1.c2
      have z3 := hx1.c3
      have z4 := hx1.c4
      have z5 := hx1.c5
      have z6 := hx1.c6
      have z7 := hx1.c7
      have z8 := hx1.c8
      have z9 := hx1.c9
      have zf := hx1.fro
      have zl := hx1.lt
      clear hy1 hx1 hb1 HY HX HREG
      go_wp2_with fail
      refine (HNUM.out _).mono ?_
      rintro e w2 ⟨rfl, rfl⟩
      go_wp2_with fail
      refine (HNAM.out _).mono ?_
      rintro e w2 ⟨rfl, rfl⟩
      go_upto_region 36 with fail
      go_region_with (fail)
      all_goals go_wp2
      all_goals refine bodyPost_ret (v := .tuple #[itA N { i with rs2 := ((R.getD 0 : Nat) : Int) } G, .slice (some ⟨b, o1, none⟩) L1.length cap1, .bool R.isSome]) (by simp [results, Tryz.results224, go_sem, itA, ins0, y0, y1, y2, y3, y4, y5, y6, y7, y8, y9, yf, yl, z0, z1, z2, z3, z4, z5, z6, z7, z8, z9, zf, zl]) rfl ⟨⟨{ i with rs2 := ((R.getD 0 : Nat) : Int) }, G, o1, L1.length, cap1, ?_, ?_⟩, ?_⟩
      all_goals first | (rw [(opd_fin (opd_reg i g 116 t L1 (.inr (.inr rfl)) R HR.out) HG.out hcp1 HST1 rfl).1]; done) | exact (opd_fin (opd_reg i g 116 t L1 (.inr (.inr rfl)) R HR.out) HG.out hcp1 HST1 rfl).2 | (repeat (first | with_reducible exact Below.refl _ _ | with_reducible exact HB.out | with_reducible exact HB1.out | (with_reducible refine Below.setCell ?_ (by simp) _) | (with_reducible refine Below.alloc ?_ (by simp) _) | (with_reducible refine Below.drew ?_)))
    · rcases HMM.out with h | h
      · exact absurd rfl h
      · cases h
    · cases M with
      | true =>
        have hfin := opd_fin (L' := (t :: L1).drop (Byt.cnt 106)) (opd_nam i g t L1 v vb HV.out HM.out (HJ.out rfl)) HXT.out hcp1 HST1 rfl
        have HFIN := hide1 hfin
        clear hfin
        go_enter Tryz.func224, Tryz.ntmps224
        go_wp2_with fail
        refine (HREG.out _).mono ?_
        rintro e w1 ⟨rfl, hb1⟩
        have HB1 := hide1 (HB.out.trans (hb1.mono HB.out.size))
        have hy1 := HY.out.more hb1 (by simp; omega)
        have hx1 := HX.out.more hb1 (by simp)
        have d0 : w1.cell? ⟨b, o, none⟩ = some (.string X0) := (HB1.out.cell (p := ⟨b, o, none⟩) hb).trans HC0.out
        have y0 := hy1.c0
        have y1 := hy1.c1
        have y2 := hy1.c2
        have y3 := hy1.c3
        have y4 := hy1.c4
        have y5 := hy1.c5
        have y6 := hy1.c6
        have y7 := hy1.c7
        have y8 := hy1.c8
        have y9 := hy1.c9
        have yf := hy1.fro
        have yl := hy1.lt
        have z0 := hx1.c0
        have z1 := hx1.c1
        have z2 := hx1.c2
        have z3 := hx1.c3
        have z4 := hx1.c4
        have z5 := hx1.c5
        have z6 := hx1.c6
        have z7 := hx1.c7
        have z8 := hx1.c8
        have z9 := hx1.c9
        have zf := hx1.fro
        have zl := hx1.lt
        clear hy1 hx1 hb1 HY HX HREG
        go_wp2_with fail
        refine (HNUM.out _).mono ?_
        rintro e w2 ⟨rfl, rfl⟩
        go_wp2_with fail
        refine (HNAM.out _).mono ?_
        rintro e w2 ⟨rfl, rfl⟩
        go_upto_region 36 with fail
        go_region_with (fail)
        all_goals go_wp2
        all_goals refine bodyPost_ret (v := .tuple #[itA N { i with im := v } X0, .slice (some ⟨b, o1, none⟩) L1.length cap1, .bool true]) (by simp [results, Tryz.results224, go_sem, itA, ins0, y0, y1, y2, y3, y4, y5, y6, y7, y8, y9, yf, yl, z0, z1, z2, z3, z4, z5, z6, z7, z8, z9, zf, zl]) rfl ⟨⟨{ i with im := v }, X0, o1, L1.length, cap1, ?_, ?_⟩, ?_⟩
        all_goals first | (rw [(HFIN.out).1]; done) | exact (HFIN.out).2 | (repeat (first | with_reducible exact Below.refl _ _ | with_reducible exact HB.out | with_reducible exact HB1.out | (with_reducible refine Below.setCell ?_ (by simp) _) | (with_reducible refine Below.alloc ?_ (by simp) _) | (with_reducible refine Below.drew ?_)))
      | false =>
        go_enter Tryz.func224, Tryz.ntmps224
        go_wp2_with fail
        refine (HREG.out _).mono ?_
        rintro e w1 ⟨rfl, hb1⟩
        have HB1 := hide1 (HB.out.trans (hb1.mono HB.out.size))
        have hy1 := HY.out.more hb1 (by simp; omega)
        have hx1 := HX.out.more hb1 (by simp)
        have d0 : w1.cell? ⟨b, o, none⟩ = some (.string X0) := (HB1.out.cell (p := ⟨b, o, none⟩) hb).trans HC0.out
        have y0 := hy1.c0
        have y1 := hy1.c1
        have y2 := hy1.c2
        have y3 := hy1.c3
        have y4 := hy1.c4
        have y5 := hy1.c5
        have y6 := hy1.c6
        have y7 := hy1.c7
        have y8 := hy1.c8
        have y9 := hy1.c9
        have yf := hy1.fro
        have yl := hy1.lt
        have z0 := hx1.c0
        have z1 := hx1.c1
        have z2 := hx1.c2
        have z3 := hx1.c3
        have z4 := hx1.c4
        have z5 := hx1.c5
        have z6 := hx1.c6
        have z7 := hx1.c7
        have z8 := hx1.c8
        have z9 := hx1.c9
        have zf := hx1.fro
        have zl := hx1.lt
        clear hy1 hx1 hb1 HY HX HREG
        go_wp2_with fail
        refine (HNUM.out _).mono ?_
        rintro e w2 ⟨rfl, rfl⟩
        go_wp2_with fail
        refine (HNAM.out _).mono ?_
        rintro e w2 ⟨rfl, rfl⟩
        go_upto_region 36 with fail
        go_region_with (fail)
        all_goals go_wp2
        all_goals refine bodyPost_ret (v := .tuple #[itA N { i with im := v } G, .slice (some ⟨b, o1, none⟩) L1.length cap1, .bool vb]) (by simp [results, Tryz.results224, go_sem, itA, ins0, y0, y1, y2, y3, y4, y5, y6, y7, y8, y9, yf, yl, z0, z1, z2, z3, z4, z5, z6, z7, z8, z9, zf, zl]) rfl ⟨⟨{ i with im := v }, G, o1, L1.length, cap1, ?_, ?_⟩, ?_⟩
        all_goals first | (rw [(opd_fin (opd_numj i g t L1 v vb HV.out HM.out) HG.out hcp1 HST1 rfl).1]; done) | exact (opd_fin (opd_numj i g t L1 v vb HV.out HM.out) HG.out hcp1 HST1 rfl).2 | (repeat (first | with_reducible exact Below.refl _ _ | with_reducible exact HB.out | with_reducible exact HB1.out | (with_reducible refine Below.setCell ?_ (by simp) _) | (with_reducible refine Below.alloc ?_ (by simp) _) | (with_reducible refine Below.drew ?_)))
    · go_enter Tryz.func224, Tryz.ntmps224
      go_wp2_with fail
      refine (HREG.out _).mono ?_
      rintro e w1 ⟨rfl, hb1⟩
      have HB1 := hide1 (HB.out.trans (hb1.mono HB.out.size))
      have hy1 := HY.out.more hb1 (by simp; omega)
      have hx1 := HX.out.more hb1 (by simp)
      have d0 : w1.cell? ⟨b, o, none⟩ = some (.string X0) := (HB1.out.cell (p := ⟨b, o, none⟩) hb).trans HC0.out
      have y0 := hy1.c0
      have y1 := hy1.c1
      have y2 := hy1.c2
      have y3 := hy1.c3
      have y4 := hy1.c4
      have y5 := hy1.c5
      have y6 := hy1.c6
      have y7 := hy1.c7
      have y8 := hy1.c8
      have y9 := hy1.c9
      have yf := hy1.fro
      have yl := hy1.lt
      have z0 := hx1.c0
      have z1 := hx1.c1
      have z2 := hx1.c2
      have z3 := hx1.c3
      have z4 := hx1.c4
      have z5 := hx1.c5
      have z6 := hx1.c6
      have z7 := hx1.c7
      have z8 := hx1.c8
      have z9 := hx1.c9
      have zf := hx1.fro
      have zl := hx1.lt
      clear hy1 hx1 hb1 HY HX HREG
      go_wp2_with fail
      refine (HNUM.out _).mono ?_
      rintro e w2 ⟨rfl, rfl⟩
      go_wp2_with fail
      refine (HNAM.out _).mono ?_
      rintro e w2 ⟨rfl, rfl⟩
      go_upto_region 36 with fail
      go_region_with (fail)
      all_goals go_wp2
      all_goals refine bodyPost_ret (v := .tuple #[itA N { i with rs1 := v } G, .slice (some ⟨b, o1, none⟩) L1.length cap1, .bool vb]) (by simp [results, Tryz.results224, go_sem, itA, ins0, y0, y1, y2, y3, y4, y5, y6, y7, y8, y9, yf, yl, z0, z1, z2, z3, z4, z5, z6, z7, z8, z9, zf, zl]) rfl ⟨⟨{ i with rs1 := v }, G, o1, L1.length, cap1, ?_, ?_⟩, ?_⟩
      all_goals first | (rw [(opd_fin (opd_num i g 117 t L1 v vb HV.out (.inl rfl)) HG.out hcp1 HST1 rfl).1]; done) | exact (opd_fin (opd_num i g 117 t L1 v vb HV.out (.inl rfl)) HG.out hcp1 HST1 rfl).2 | (repeat (first | with_reducible exact Below.refl _ _ | with_reducible exact HB.out | with_reducible exact HB1.out | (with_reducible refine Below.setCell ?_ (by simp) _) | (with_reducible refine Below.alloc ?_ (by simp) _) | (with_reducible refine Below.drew ?_)))
    · go_enter Tryz.func224, Tryz.ntmps224
      go_wp2_with fail
      refine (HREG.out _).mono ?_
      rintro e w1 ⟨rfl, hb1⟩
      have HB1 := hide1 (HB.out.trans (hb1.mono HB.out.size))
      have hy1 := HY.out.more hb1 (by simp; omega)
      have hx1 := HX.out.more hb1 (by simp)
      have d0 : w1.cell? ⟨b, o, none⟩ = some (.string X0) := (HB1.out.cell (p := ⟨b, o, none⟩) hb).trans HC0.out
      have y0 := hy1.c0
      have y1 := hy1.c1
      have y2 := hy1.c2
      have y3 := hy1.c3
      have y4 := hy1.c4
      have y5 := hy1.c5
      have y6 := hy1.c6
      have y7 := hy1.c7
      have y8 := hy1.c8
      have y9 := hy1.c9
      have yf := hy1.fro
      have yl := hy1.lt
      have z0 := hx1.c0
      have z1 := hx1.c1
      have z2 := hx1.c2
      have z3 := hx1.c3
      have z4 := hx1.c4
      have z5 := hx1.c5
      have z6 := hx1.c6
      have z7 := hx1.c7
      have z8 := hx1.c8
      have z9 := hx1.c9
      have zf := hx1.fro
      have zl := hx1.lt
      clear hy1 hx1 hb1 HY HX HREG
      go_wp2_with fail
      refine (HNUM.out _).mono ?_
      rintro e w2 ⟨rfl, rfl⟩
      go_wp2_with fail
      refine (HNAM.out _).mono ?_
      rintro e w2 ⟨rfl, rfl⟩
      go_upto_region 36 with fail
      go_region_with (fail)
      all_goals go_wp2
      all_goals refine bodyPost_ret (v := .tuple #[itA N { i with im := v } G, .slice (some ⟨b, o1, none⟩) L1.length cap1, .bool vb]) (by simp [results, Tryz.results224, go_sem, itA, ins0, y0, y1, y2, y3, y4, y5, y6, y7, y8, y9, yf, yl, z0, z1, z2, z3, z4, z5, z6, z7, z8, z9, zf, zl]) rfl ⟨⟨{ i with im := v }, G, o1, L1.length, cap1, ?_, ?_⟩, ?_⟩
      all_goals first | (rw [(opd_fin (opd_num i g 105 t L1 v vb HV.out (.inr rfl)) HG.out hcp1 HST1 rfl).1]; done) | exact (opd_fin (opd_num i g 105 t L1 v vb HV.out (.inr rfl)) HG.out hcp1 HST1 rfl).2 | (repeat (first | with_reducible exact Below.refl _ _ | with_reducible exact HB.out | with_reducible exact HB1.out | (with_reducible refine Below.setCell ?_ (by simp) _) | (with_reducible refine Below.alloc ?_ (by simp) _) | (with_reducible refine Below.drew ?_)))
theorem u_operand (N : ByteArray) (g : List UInt8) (i : Ins) (c : Nat) (hc : c = 100 ∨ c = 115 ∨ c = 116 ∨ c = 109 ∨ c = 106 ∨ c = 117 ∨ c = 105) (hj : c = 106 → i.im = 0) (b o cap : Nat) (L : List (List UInt8)) (hL : L.length ≤ 5000) (hcap : L.length ≤ cap) (w : World) (hw : Hid (StrsAt w b o L)) (hb : b < w.heap.size) (hs : Hid (Short L)) :
    Calls Tryz.prog 224 #[itA N i ⟨g.toArray⟩, .int .u8 c, .slice (some ⟨b, o, none⟩) L.length cap] w fun e w' => OpdPost N (Byt.opdP i g c L) b o L (L.drop (Byt.cnt c)) e ∧ Below w.heap.size w w' := by
  by_cases hm : c = 109
  · subst hm
    cases L with
    | nil => exact u_operand_x N g i 109 hc hj b o cap [] (.inr rfl) hL hcap w hw hb hs
    | cons t L1 => exact u_operand_m N g i b o cap t L1 hL hcap w hw hb hs
  · exact u_operand_x N g i c hc hj b o cap L (.inl hm) hL hcap w hw hb hs
end Go.Proofs.YthfofjkfbhahoaaGreatDoor
end
