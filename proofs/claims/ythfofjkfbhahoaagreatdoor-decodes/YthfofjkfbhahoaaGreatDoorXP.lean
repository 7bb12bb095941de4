import Derived.Test.YthfofjkfbhahoaaGreatDoorXO
section
namespace Go.Proofs.YthfofjkfbhahoaaGreatDoor
open Go.RowKit
set_option linter.unusedSimpArgs false
namespace Byt
/-- the operand of a letter, off the front of the tokens; what the line's target is -/
def opdP (i : Ins) (g : List UInt8) (c : Nat) (T : List (List UInt8)) : Option (Ins × List UInt8) :=
  if c = 100 ∨ c = 115 ∨ c = 116 then (opdR i c (T[0]?.getD [])).map fun j => (j, g)
  else if c = 109 then (opdM i (T[0]?.getD []) (T[1]?.getD []) (T[2]?.getD []) (T[3]?.getD [])).map fun j => (j, g)
  else if c = 106 ∧ isName (T[0]?.getD []) = true then some (i, T[0]?.getD [])
  else (opdN i c (T[0]?.getD [])).map fun j => (j, g)
end Byt
def lnO (N : ByteArray) : Option (Ins × List UInt8) → Value
  | some (i, g) => .tuple #[lnA N i ⟨g.toArray⟩, .bool true]
  | none => .tuple #[lnA ⟨#[]⟩ ins0 ⟨#[]⟩, .bool false]
theorem lnO_map (N : ByteArray) (g : List UInt8) (o : Option Ins) : lnO N (o.map fun j => (j, g)) = insO N ⟨g.toArray⟩ o := by cases o <;> rfl
theorem lnO_ins (N G : ByteArray) (o : Option Ins) : insO N G o = .tuple #[(match o with | some i => lnA N i G | none => lnA ⟨#[]⟩ ins0 ⟨#[]⟩), .bool o.isSome] := by cases o <;> rfl
set_option maxHeartbeats 400000 in
theorem a_operandTokens (c : Nat) (w : World) :
    Calls Tryz.prog 241 #[.int .u8 c] w fun e w' => e = .returned (.int .i64 (if c = 109 then 4 else 1 : Nat)) ∧ w' = w := by
  by_cases h : c = 109
  · subst h
    go_enter Tryz.func241, Tryz.ntmps241
    go_wp2
    go_ret
    exact ⟨rfl, rfl⟩
  · rw [if_neg h]
    have h' : ((c : Int) == 109) = false := by simp; omega
    go_enter Tryz.func241, Tryz.ntmps241
    go_wp2
    go_ret
    exact ⟨rfl, rfl⟩
/-- a block that holds a line -/
structure Bx (w : World) (b : Nat) (N : ByteArray) (i : Ins) (G : ByteArray) : Prop where
  c0 : w.cell? ⟨b, 0, none⟩ = some (.string N)
  c1 : w.cell? ⟨b, 1, none⟩ = some (.int .i64 i.op)
  c2 : w.cell? ⟨b, 2, none⟩ = some (.int .i64 i.rd)
  c3 : w.cell? ⟨b, 3, none⟩ = some (.int .i64 i.rs1)
  c4 : w.cell? ⟨b, 4, none⟩ = some (.int .i64 i.rs2)
  c5 : w.cell? ⟨b, 5, none⟩ = some (.int .i64 i.im)
  c6 : w.cell? ⟨b, 6, none⟩ = some (.int .i64 i.ln)
  c7 : w.cell? ⟨b, 7, none⟩ = some (.string G)
  fro : ∀ o, w.frozen? ⟨b, o, none⟩ = false
  lt : b < w.heap.size
theorem Bx.more {w w' : World} {b n : Nat} {N G : ByteArray} {i : Ins} (h : Bx w b N i G) (hb : Below n w w') (hn : b < n) : Bx w' b N i G :=
  ⟨(hb.cell (p := ⟨b, 0, none⟩) hn).trans h.c0, (hb.cell (p := ⟨b, 1, none⟩) hn).trans h.c1, (hb.cell (p := ⟨b, 2, none⟩) hn).trans h.c2, (hb.cell (p := ⟨b, 3, none⟩) hn).trans h.c3, (hb.cell (p := ⟨b, 4, none⟩) hn).trans h.c4, (hb.cell (p := ⟨b, 5, none⟩) hn).trans h.c5, (hb.cell (p := ⟨b, 6, none⟩) hn).trans h.c6, (hb.cell (p := ⟨b, 7, none⟩) hn).trans h.c7, fun o => (hb.frozen (p := ⟨b, o, none⟩) hn).trans (h.fro o), by have := hb.size; have := h.lt; omega⟩
def lnC (N : ByteArray) (i : Ins) (G : ByteArray) : Obj := .cells #[.string N, .int .i64 i.op, .int .i64 i.rd, .int .i64 i.rs1, .int .i64 i.rs2, .int .i64 i.im, .int .i64 i.ln, .string G] 155
theorem Bx.new (w : World) (N : ByteArray) (i : Ins) (G : ByteArray) : Bx (w.alloc (lnC N i G)) w.heap.size N i G := by
  unfold lnC
  refine ⟨?_, ?_, ?_, ?_, ?_, ?_, ?_, ?_, ?_, ?_⟩ <;> simp
theorem Bx.alloc {w : World} {b : Nat} {N G : ByteArray} {i : Ins} (h : Bx w b N i G) (o : Obj) : Bx (w.alloc o) b N i G := h.more ((Below.refl w.heap.size w).alloc (Nat.le_refl _) o) h.lt
theorem drop_get (L : List (List UInt8)) (a k : Nat) : (L.drop a)[k]? = L[a + k]? := List.getElem?_drop
theorem ag_some {N G : ByteArray} {i : Ins} : insO N G (some i) = .tuple #[lnA N i G, .bool true] := rfl
set_option maxHeartbeats 4000000 in
theorem a_readOperand (N : ByteArray) (g : List UInt8) (i : Ins) (c : Nat) (hc : c = 100 ∨ c = 115 ∨ c = 116 ∨ c = 109 ∨ c = 106 ∨ c = 117 ∨ c = 105) (b o cap : Nat) (L : List (List UInt8)) (hL : L.length ≤ 5000) (a : Nat) (ha : a ≤ 9000) (w : World) (hw : Hid (StrsAt w b o L)) (hb : b < w.heap.size) (hs : Hid (Short L)) :
    Calls Tryz.prog 240 #[lnA N i ⟨g.toArray⟩, .int .u8 c, .slice (some ⟨b, o, none⟩) L.length cap, .int .i64 a] w fun e w' => e = .returned (lnO N (Byt.opdP i g c (L.drop a))) ∧ Below w.heap.size w w' := by
  have c0 := fun w hw => a_tokenAt b o cap L hL a (by omega) w hw
  have s0 := Short.get hs a
  have cm := fun (w : World) (hw : Hid (StrsAt w b o L)) (hb : b < w.heap.size) => a_readPlaceOperand N ⟨g.toArray⟩ i b o cap L hL a ha w hw hb hs
  unfold Byt.opdP
  rw [drop_get, drop_get, drop_get, drop_get, Nat.add_zero]
  obtain ⟨t0, h0⟩ : ∃ t, t = L[a]?.getD [] := ⟨_, rfl⟩
  rw [← h0]
  rw [← h0] at c0 s0 cm
  clear h0
  obtain ⟨X0, e0⟩ : ∃ X : ByteArray, X = ⟨t0.toArray⟩ := ⟨_, rfl⟩
  rw [show Byt.strV t0 = .string X0 by rw [e0]; rfl] at c0
  have f0 : X0.data.toList = t0 := by rw [e0]
  have s0' : X0.size ≤ 5000 := by rw [e0]; simpa [ByteArray.size] using s0
  clear e0 s0
  subst f0
  have C0 := hide1 c0
  have CM := hide1 cm
  clear c0 cm
  obtain ⟨G, hG⟩ : ∃ G : ByteArray, G = ⟨g.toArray⟩ := ⟨_, rfl⟩
  have B2 : Below w.heap.size w ((w.alloc (lnC N i G)).alloc (lnC ⟨#[]⟩ ins0 ⟨#[]⟩)) := ((Below.refl _ _).alloc (by simp) _).alloc (by simp) _
  have hw2 := StrsAt.more hw hb B2
  have hb2 : b < ((w.alloc (lnC N i G)).alloc (lnC ⟨#[]⟩ ins0 ⟨#[]⟩)).heap.size := Nat.lt_of_lt_of_le hb B2.size
  have hX : Bx ((w.alloc (lnC N i G)).alloc (lnC ⟨#[]⟩ ins0 ⟨#[]⟩)) (w.heap.size + 1) ⟨#[]⟩ ins0 ⟨#[]⟩ := by
    have h := Bx.new (w.alloc (lnC N i G)) ⟨#[]⟩ ins0 ⟨#[]⟩
    simpa using h
  have HB := hide1 B2
  have HB2 := hide1 hb2
  have HX := hide1 hX
  unfold lnC ins0 at hw2 HB HB2 HX
  clear B2 hb2 hX
  rcases hc with rfl | rfl | rfl | rfl | rfl | rfl | rfl
  · rw [if_pos (by decide), lnO_map, ← hG]
    clear hG
    obtain ⟨O, hO⟩ : ∃ O, O = Byt.opdR i 100 X0.data.toList := ⟨_, rfl⟩
    rw [← hO]
    have HO := hide1 hO
    clear hO
    unfold lnA
    go_enter Tryz.func240, Tryz.ntmps240
    go_wp2_with fail
    refine (C0.out _ hw2).mono ?_
    rintro e w1 ⟨rfl, rfl⟩
    go_wp2_with fail
    refine (a_readRegisterOperand N G i 100 (by decide) X0 _).mono ?_
    rintro e w1 ⟨rfl, hb1⟩
    rw [← HO.out]
    have hx := HX.out.more hb1 (by simp)
    have hB := hide1 (HB.out.trans (hb1.mono HB.out.size))
    clear hb1 HX HB HB2 hw2
    have z0 := hx.c0
    have z1 := hx.c1
    have z2 := hx.c2
    have z3 := hx.c3
    have z4 := hx.c4
    have z5 := hx.c5
    have z6 := hx.c6
    have z7 := hx.c7
    have zf := hx.fro
    have zl := hx.lt
    clear hx
    cases O with
    | none =>
      unfold insO lnA ins0
      go_wp2
      refine bodyPost_ret (v := insO N G none) (by simp [results, Tryz.results240, go_sem, insO, lnO, lnA, ins0, z0, z1, z2, z3, z4, z5, z6, z7]) rfl ⟨by first | rfl | simp [lnO, lnA], ?_⟩
      repeat (first | with_reducible exact Below.refl _ _ | with_reducible exact hB.out | (with_reducible refine Below.setCell ?_ (by simp) _) | (with_reducible refine Below.alloc ?_ (by simp) _))
    | some j =>
      unfold insO lnA
      go_wp2
      refine bodyPost_ret (v := insO N G (some j)) (by simp [results, Tryz.results240, go_sem, insO, lnO, lnA, ins0, z0, z1, z2, z3, z4, z5, z6, z7]) rfl ⟨by first | rfl | simp [lnO, lnA], ?_⟩
      repeat (first | with_reducible exact Below.refl _ _ | with_reducible exact hB.out | (with_reducible refine Below.setCell ?_ (by simp) _) | (with_reducible refine Below.alloc ?_ (by simp) _))
  · rw [if_pos (by decide), lnO_map, ← hG]
    clear hG
    obtain ⟨O, hO⟩ : ∃ O, O = Byt.opdR i 115 X0.data.toList := ⟨_, rfl⟩
    rw [← hO]
    have HO := hide1 hO
    clear hO
    unfold lnA
    go_enter Tryz.func240, Tryz.ntmps240
    go_wp2_with fail
    refine (C0.out _ hw2).mono ?_
    rintro e w1 ⟨rfl, rfl⟩
    go_wp2_with fail
    refine (a_readRegisterOperand N G i 115 (by decide) X0 _).mono ?_
    rintro e w1 ⟨rfl, hb1⟩
    rw [← HO.out]
    have hx := HX.out.more hb1 (by simp)
    have hB := hide1 (HB.out.trans (hb1.mono HB.out.size))
    clear hb1 HX HB HB2 hw2
    have z0 := hx.c0
    have z1 := hx.c1
    have z2 := hx.c2
    have z3 := hx.c3
    have z4 := hx.c4
    have z5 := hx.c5
    have z6 := hx.c6
    have z7 := hx.c7
    have zf := hx.fro
    have zl := hx.lt
    clear hx
    cases O with
    | none =>
      unfold insO lnA ins0
      go_wp2
      refine bodyPost_ret (v := insO N G none) (by simp [results, Tryz.results240, go_sem, insO, lnO, lnA, ins0, z0, z1, z2, z3, z4, z5, z6, z7]) rfl ⟨by first | rfl | simp [lnO, lnA], ?_⟩
      repeat (first | with_reducible exact Below.refl _ _ | with_reducible exact hB.out | (with_reducible refine Below.setCell ?_ (by simp) _) | (with_reducible refine Below.alloc ?_ (by simp) _))
    | some j =>
      unfold insO lnA
      go_wp2
      refine bodyPost_ret (v := insO N G (some j)) (by simp [results, Tryz.results240, go_sem, insO, lnO, lnA, ins0, z0, z1, z2, z3, z4, z5, z6, z7]) rfl ⟨by first | rfl | simp [lnO, lnA], ?_⟩
      repeat (first | with_reducible exact Below.refl _ _ | with_reducible exact hB.out | (with_reducible refine Below.setCell ?_ (by simp) _) | (with_reducible refine Below.alloc ?_ (by simp) _))
  · rw [if_pos (by decide), lnO_map, ← hG]
    clear hG
    obtain ⟨O, hO⟩ : ∃ O, O = Byt.opdR i 116 X0.data.toList := ⟨_, rfl⟩
    rw [← hO]
    have HO := hide1 hO
    clear hO
    unfold lnA
    go_enter Tryz.func240, Tryz.ntmps240
    go_wp2_with fail
    refine (C0.out _ hw2).mono ?_
    rintro e w1 ⟨rfl, rfl⟩
    go_wp2_with fail
    refine (a_readRegisterOperand N G i 116 (by decide) X0 _).mono ?_
    rintro e w1 ⟨rfl, hb1⟩
    rw [← HO.out]
    have hx := HX.out.more hb1 (by simp)
    have hB := hide1 (HB.out.trans (hb1.mono HB.out.size))
    clear hb1 HX HB HB2 hw2
    have z0 := hx.c0
    have z1 := hx.c1
    have z2 := hx.c2
    have z3 := hx.c3
    have z4 := hx.c4
    have z5 := hx.c5
    have z6 := hx.c6
    have z7 := hx.c7
    have zf := hx.fro
    have zl := hx.lt
    clear hx
    cases O with
    | none =>
      unfold insO lnA ins0
      go_wp2
      refine bodyPost_ret (v := insO N G none) (by simp [results, Tryz.results240, go_sem, insO, lnO, lnA, ins0, z0, z1, z2, z3, z4, z5, z6, z7]) rfl ⟨by first | rfl | simp [lnO, lnA], ?_⟩
      repeat (first | with_reducible exact Below.refl _ _ | with_reducible exact hB.out | (with_reducible refine Below.setCell ?_ (by simp) _) | (with_reducible refine Below.alloc ?_ (by simp) _))
    | some j =>
      unfold insO lnA
      go_wp2
      refine bodyPost_ret (v := insO N G (some j)) (by simp [results, Tryz.results240, go_sem, insO, lnO, lnA, ins0, z0, z1, z2, z3, z4, z5, z6, z7]) rfl ⟨by first | rfl | simp [lnO, lnA], ?_⟩
      repeat (first | with_reducible exact Below.refl _ _ | with_reducible exact hB.out | (with_reducible refine Below.setCell ?_ (by simp) _) | (with_reducible refine Below.alloc ?_ (by simp) _))
  · rw [if_neg (by decide), if_pos rfl, lnO_map, ← hG]
    rw [← hG] at CM
    clear hG
    obtain ⟨O, hO⟩ : ∃ O, O = Byt.opdM i X0.data.toList (L[a + 1]?.getD []) (L[a + 2]?.getD []) (L[a + 3]?.getD []) := ⟨_, rfl⟩
    rw [← hO]
    have HO := hide1 hO
    clear hO
    unfold lnA
    go_enter Tryz.func240, Tryz.ntmps240
    go_wp2_with fail
    refine (C0.out _ hw2).mono ?_
    rintro e w1 ⟨rfl, rfl⟩
    go_wp2_with fail
    refine (CM.out _ hw2 HB2.out).mono ?_
    rintro e w1 ⟨rfl, hb1⟩
    rw [← HO.out]
    have hx := HX.out.more hb1 (by simp)
    have hB := hide1 (HB.out.trans (hb1.mono HB.out.size))
    clear hb1 HX HB HB2 hw2
    have z0 := hx.c0
    have z1 := hx.c1
    have z2 := hx.c2
    have z3 := hx.c3
    have z4 := hx.c4
    have z5 := hx.c5
    have z6 := hx.c6
    have z7 := hx.c7
    have zf := hx.fro
    have zl := hx.lt
    clear hx
    cases O with
    | none =>
      unfold insO lnA ins0
      go_wp2
      refine bodyPost_ret (v := insO N G none) (by simp [results, Tryz.results240, go_sem, insO, lnO, lnA, ins0, z0, z1, z2, z3, z4, z5, z6, z7]) rfl ⟨by first | rfl | simp [lnO, lnA], ?_⟩
      repeat (first | with_reducible exact Below.refl _ _ | with_reducible exact hB.out | (with_reducible refine Below.setCell ?_ (by simp) _) | (with_reducible refine Below.alloc ?_ (by simp) _))
    | some j =>
      unfold insO lnA
      go_wp2
      refine bodyPost_ret (v := insO N G (some j)) (by simp [results, Tryz.results240, go_sem, insO, lnO, lnA, ins0, z0, z1, z2, z3, z4, z5, z6, z7]) rfl ⟨by first | rfl | simp [lnO, lnA], ?_⟩
      repeat (first | with_reducible exact Below.refl _ _ | with_reducible exact hB.out | (with_reducible refine Below.setCell ?_ (by simp) _) | (with_reducible refine Below.alloc ?_ (by simp) _))
  · rw [if_neg (by decide), if_neg (by decide)]
    cases hn : Byt.isName X0.data.toList
    · rw [if_neg (by simp), lnO_map, ← hG]
      clear hG
      obtain ⟨V, hV⟩ : ∃ V, V = Byt.number X0.data.toList := ⟨_, rfl⟩
      have HV := hide1 hV
      unfold Byt.opdN
      rw [← hV]
      clear hV
      obtain ⟨v, vb⟩ := V
      cases vb with
      | false =>
        rw [if_neg (by simp)]
        unfold lnA
        go_enter Tryz.func240, Tryz.ntmps240
        go_wp2_with fail
        refine (C0.out _ hw2).mono ?_
        rintro e w1 ⟨rfl, rfl⟩
        go_wp2_with fail
        refine (a_isName X0 s0' _).mono ?_
        rintro e w1 ⟨rfl, rfl⟩
        rw [hn]
        go_wp2_with fail
        refine (a_readNumber X0 s0' _).mono ?_
        rintro e w1 ⟨rfl, rfl⟩
        rw [← HV.out]
        go_wp2
        refine bodyPost_ret (v := insO N G none) (by simp [results, Tryz.results240, go_sem, insO, lnO, lnA, ins0]) rfl ⟨by first | rfl | simp [lnO, lnA], ?_⟩
        repeat (first | with_reducible exact Below.refl _ _ | with_reducible exact hB.out | (with_reducible refine Below.setCell ?_ (by simp) _) | (with_reducible refine Below.alloc ?_ (by simp) _))
      | true =>
        rw [if_pos rfl]
        unfold lnA
        go_enter Tryz.func240, Tryz.ntmps240
        go_wp2_with fail
        refine (C0.out _ hw2).mono ?_
        rintro e w1 ⟨rfl, rfl⟩
        go_wp2_with fail
        refine (a_isName X0 s0' _).mono ?_
        rintro e w1 ⟨rfl, rfl⟩
        rw [hn]
        go_wp2_with fail
        refine (a_readNumber X0 s0' _).mono ?_
        rintro e w1 ⟨rfl, rfl⟩
        rw [← HV.out]
        go_wp2
        refine bodyPost_ret (v := insO N G (some { i with im := v })) (by simp [results, Tryz.results240, go_sem, insO, lnO, lnA, ins0]) rfl ⟨by first | rfl | simp [lnO, lnA], ?_⟩
        repeat (first | with_reducible exact Below.refl _ _ | with_reducible exact hB.out | (with_reducible refine Below.setCell ?_ (by simp) _) | (with_reducible refine Below.alloc ?_ (by simp) _))
    · rw [if_pos (by simp)]
      rw [← hG]
      clear hG
      unfold lnA
      go_enter Tryz.func240, Tryz.ntmps240
      go_wp2_with fail
      refine (C0.out _ hw2).mono ?_
      rintro e w1 ⟨rfl, rfl⟩
      go_wp2_with fail
      refine (a_isName X0 s0' _).mono ?_
      rintro e w1 ⟨rfl, rfl⟩
      rw [hn]
      go_wp2
      refine bodyPost_ret (v := .tuple #[lnA N i X0, .bool true]) (by simp [results, Tryz.results240, go_sem, insO, lnO, lnA, ins0]) rfl ⟨by first | rfl | simp [lnO, lnA], ?_⟩
      repeat (first | with_reducible exact Below.refl _ _ | with_reducible exact hB.out | (with_reducible refine Below.setCell ?_ (by simp) _) | (with_reducible refine Below.alloc ?_ (by simp) _))
  · rw [if_neg (by decide), if_neg (by decide), if_neg (by simp), lnO_map, ← hG]
    clear hG
    obtain ⟨V, hV⟩ : ∃ V, V = Byt.number X0.data.toList := ⟨_, rfl⟩
    have HV := hide1 hV
    unfold Byt.opdN
    rw [← hV]
    clear hV
    obtain ⟨v, vb⟩ := V
    cases vb with
    | false =>
      rw [if_neg (by simp)]
      unfold lnA
      go_enter Tryz.func240, Tryz.ntmps240
      go_wp2_with fail
      refine (C0.out _ hw2).mono ?_
      rintro e w1 ⟨rfl, rfl⟩
      go_wp2_with fail
      refine (a_readNumber X0 s0' _).mono ?_
      rintro e w1 ⟨rfl, rfl⟩
      rw [← HV.out]
      go_wp2
      refine bodyPost_ret (v := insO N G none) (by simp [results, Tryz.results240, go_sem, insO, lnO, lnA, ins0]) rfl ⟨by first | rfl | simp [lnO, lnA], ?_⟩
      repeat (first | with_reducible exact Below.refl _ _ | with_reducible exact hB.out | (with_reducible refine Below.setCell ?_ (by simp) _) | (with_reducible refine Below.alloc ?_ (by simp) _))
    | true =>
      rw [if_pos rfl]
      unfold lnA
      go_enter Tryz.func240, Tryz.ntmps240
      go_wp2_with fail
      refine (C0.out _ hw2).mono ?_
      rintro e w1 ⟨rfl, rfl⟩
      go_wp2_with fail
      refine (a_readNumber X0 s0' _).mono ?_
      rintro e w1 ⟨rfl, rfl⟩
      rw [← HV.out]
      go_wp2
      refine bodyPost_ret (v := insO N G (some { i with rs1 := v })) (by simp [results, Tryz.results240, go_sem, insO, lnO, lnA, ins0]) rfl ⟨by first | rfl | simp [lnO, lnA], ?_⟩
      repeat (first | with_reducible exact Below.refl _ _ | with_reducible exact hB.out | (with_reducible refine Below.setCell ?_ (by simp) _) | (with_reducible refine Below.alloc ?_ (by simp) _))
  · rw [if_neg (by decide), if_neg (by decide), if_neg (by simp), lnO_map, ← hG]
    clear hG
    obtain ⟨V, hV⟩ : ∃ V, V = Byt.number X0.data.toList := ⟨_, rfl⟩
    have HV := hide1 hV
    unfold Byt.opdN
    rw [← hV]
    clear hV
    obtain ⟨v, vb⟩ := V
    cases vb with
    | false =>
      rw [if_neg (by simp)]
      unfold lnA
      go_enter Tryz.func240, Tryz.ntmps240
      go_wp2_with fail
      refine (C0.out _ hw2).mono ?_
      rintro e w1 ⟨rfl, rfl⟩
      go_wp2_with fail
      refine (a_readNumber X0 s0' _).mono ?_
      rintro e w1 ⟨rfl, rfl⟩
      rw [← HV.out]
      go_wp2
      refine bodyPost_ret (v := insO N G none) (by simp [results, Tryz.results240, go_sem, insO, lnO, lnA, ins0]) rfl ⟨by first | rfl | simp [lnO, lnA], ?_⟩
      repeat (first | with_reducible exact Below.refl _ _ | with_reducible exact hB.out | (with_reducible refine Below.setCell ?_ (by simp) _) | (with_reducible refine Below.alloc ?_ (by simp) _))
    | true =>
      rw [if_pos rfl]
      unfold lnA
      go_enter Tryz.func240, Tryz.ntmps240
      go_wp2_with fail
      refine (C0.out _ hw2).mono ?_
      rintro e w1 ⟨rfl, rfl⟩
      go_wp2_with fail
      refine (a_readNumber X0 s0' _).mono ?_
      rintro e w1 ⟨rfl, rfl⟩
      rw [← HV.out]
      go_wp2
      refine bodyPost_ret (v := insO N G (some { i with im := v })) (by simp [results, Tryz.results240, go_sem, insO, lnO, lnA, ins0]) rfl ⟨by first | rfl | simp [lnO, lnA], ?_⟩
      repeat (first | with_reducible exact Below.refl _ _ | with_reducible exact hB.out | (with_reducible refine Below.setCell ?_ (by simp) _) | (with_reducible refine Below.alloc ?_ (by simp) _))
end Go.Proofs.YthfofjkfbhahoaaGreatDoor
end
section
namespace Go.Proofs.YthfofjkfbhahoaaGreatDoor
open Go.RowKit
set_option linter.unusedSimpArgs false
namespace Byt
def cnt (c : Nat) : Nat := if c = 109 then 4 else 1
/-- the operands of letters, off the front of the tokens; m: a comma stands ahead -/
def opsP : List Nat → Bool → Ins → List UInt8 → List (List UInt8) → Option (Ins × List UInt8)
  | [], _, i, g, T => if T.length = 0 then some (i, g) else none
  | c :: cs, m, i, g, T =>
    if m = true ∧ T[0]?.getD [] ≠ [44] then none
    else match opdP i g c (T.drop (if m then 1 else 0)) with
      | none => none
      | some (i', g') => opsP cs true i' g' (T.drop ((if m then 1 else 0) + cnt c))
theorem reg_nil : reg [] = none := by decide
theorem number_nil : (number []).2 = false := by decide
theorem isName_nil : isName [] = false := by decide
theorem getD_ne {T : List (List UInt8)} {k : Nat} (h : T[k]?.getD [] ≠ []) : k < T.length := by
  refine Nat.lt_of_not_le fun hk => h ?_
  rw [List.getElem?_eq_none hk]; rfl
theorem opd_len (i : Ins) (g : List UInt8) (c : Nat) (T : List (List UInt8)) (x : Ins × List UInt8) (h : opdP i g c T = some x) : cnt c ≤ T.length := by
  unfold opdP at h
  unfold cnt
  split at h
  · next hc =>
    rw [if_neg (by omega)]
    have : T[0]?.getD [] ≠ [] := by
      intro e; rw [e] at h; simp [opdR, reg_nil] at h
    have := getD_ne this; omega
  · split at h
    · next hc =>
      rw [if_pos hc]
      simp only [opdM] at h
      split at h
      · next hh =>
        have : T[3]?.getD [] ≠ [] := by rw [hh.2.1]; simp
        have := getD_ne this; omega
      · simp at h
    · next h1 h2 =>
      rw [if_neg h2]
      have : T[0]?.getD [] ≠ [] := by
        intro e
        rw [e] at h; simp [isName_nil, opdN, number_nil] at h
      have := getD_ne this; omega
end Byt
end Go.Proofs.YthfofjkfbhahoaaGreatDoor
end
