import Derived.Test.YtmlgonbhoknoiabGreatDoorRows
import Derived.Test.YtmlgonbhoknoiabGreatDoorYAP
set_option maxHeartbeats 8000000
set_option linter.all false
namespace Go.Proofs.YtmlgonbhoknoiabGreatDoor
open Go.RowKit Go.Proofs.Tryz
section
open Go.ChangeShapes Go.WideShapes Go.ChangeAt Go.WideMaps Go.WideElems Go.RowKit
theorem k_own : ownKnob prog.godebug = none := by kernel_rfl
theorem k_laidOut : laidOutB prog = true := by kernel_rfl
def laid3 : List (String × DataW Unit) := [("math/bits.deBruijn32tab", Rows.laid_math_bits_deBruijn32tab), ("math/bits.deBruijn64tab", Rows.laid_math_bits_deBruijn64tab), ("internal/strconv.uint64pow10", Rows.laid_internal_strconv_uint64pow10)]
theorem gPow : prog.globalNamed "internal/strconv.uint64pow10" = some 0 := by kernel_rfl
theorem gPowT : (prog.globals[0]?).map (·.type) = some 283 := by kernel_rfl
theorem tb_of_laid {W : World} (h : laidMetH prog laid3 W) : Tb W := by
 rw [MakeChecks.laidMetH_plain _ _ _ (by kernel_rfl)] at h
 obtain ⟨ps, ⟨g0, t0, cs0, f0, p0, q0, hg0, ht0, hv0, hd0, ⟨g1, t1, cs1, f1, p1, q1, hg1, ht1, hv1, hd1, ⟨g2, t2, cs2, f2, p2, q2, hg2, ht2, hv2, hd2, _, _⟩, _⟩, _⟩, _, _⟩ := h
 obtain rfl := Option.some.inj (gPow.symm.trans hg2)
 obtain rfl := Option.some.inj (gPowT.symm.trans ht2)
 have e := Lib.cells_of_tab (zs := Lib.pow10Tab) (k := .u64) Tryz.underlying283 (by kernel_rfl) (by kernel_rfl) (by kernel_rfl) hd2
 unfold Tb Lib.TabIs
 rw [hv2, <- e]
theorem int_bds {n : Int} (h : (Lit.int .i64 n).wf = true) : -9223372036854775808 <= n /\ n <= 9223372036854775807 := by
 simpa [Lit.wf, IntKind.min, IntKind.max, IntKind.signed, IntKind.bits] using h
theorem wAll_mem {H : Type} {P : Program} {e : TypeId} : ∀ {l : List (DataW H)} {i : Nat} {d : DataW H}, l[i]? = some d -> ∀ n ∈ d.weights P e, n ∈ DataW.weightsAll P e l
 | [], i, d, h, n, hn => by simp at h
 | x :: l, 0, d, h, n, hn => by
  simp only [List.getElem?_cons_zero, Option.some.injEq] at h
  subst h
  simp only [DataW.weightsAll, List.mem_append]; exact .inl hn
 | x :: l, i + 1, d, h, n, hn => by
  simp only [List.getElem?_cons_succ] at h
  simp only [DataW.weightsAll, List.mem_append]; exact .inr (wAll_mem h n hn)
theorem add1 (b o i : Nat) : (⟨b, o, none⟩ : Addr).add i = ⟨b, o + i, none⟩ := by
 unfold Addr.add
 split <;> simp_all
theorem add5 (b o i f : Nat) : ((⟨b, o, none⟩ : Addr).add i).add f = ⟨b, o + i + f, none⟩ := by
 rw [add1, add1]
def opsD : LOp := ⟨0, 0, 0, 0, ⟨#[]⟩⟩
set_option maxRecDepth 100000 in
theorem open_ops {H : Type} {enc : TypeId × Value -> H} {W : World} {v0 : Value} {d0 : DataW H} {p : List MemPlace} {base : Nat} (hv : Value.okWide prog W .any base 22 v0)
 (h : DataW.Trod enc prog W 0 (fun _ => true) true 22 v0 d0 p) (hwt : ∀ n ∈ d0.weights prog 22, n <= reachBytes) :
 ∃ q cap L, v0 = .slice q L.length cap /\ L.length <= 1125899906842624 /\ (∀ x ∈ L, LOk x) /\ LpsAt W q L := by
 obtain ⟨sa, sl, sc, rfl⟩ := okWide_slice Tryz.underlying22 hv
 obtain ⟨fuel, h⟩ := h
 have hcs : (Value.slice sa sl sc).cells.toList = [.slice sa sl sc] := rfl
 rw [hcs] at h
 rcases Deep.open_slice Tryz.underlying22 h with ⟨hc, _⟩ | ⟨a, len, cap, m, n, D, Pl, hc, _, hl, hm, hmm, hx0, hx⟩
 . simp only [List.cons.injEq, and_true, Value.slice.injEq] at hc
   obtain ⟨rfl, rfl, rfl⟩ := hc
   exact ⟨none, 0, [], rfl, by simp, by simp, .inl rfl⟩
 . simp only [List.cons.injEq, and_true, Value.slice.injEq] at hc
   obtain ⟨rfl, rfl, rfl⟩ := hc
   simp only [if_true] at hmm
   subst hmm
   have c37 : prog.cellsOf 36 = 5 := by kernel_rfl
   have c3 : prog.cellsOf 3 = 1 := by kernel_rfl
   have c9 : prog.cellsOf 9 = 1 := by kernel_rfl
   simp only [Prod.mk.injEq] at hx0
   obtain ⟨hd0, _⟩ := hx0
   subst hd0
   have hby : prog.bytesOf 36 = 48 := by kernel_rfl
   simp only [DataW.weights, Tryz.underlying22, hby, List.mem_cons, List.mem_append, List.length_map, List.length_range] at hwt
   have hlen := hwt _ (.inl rfl)
   have hmx : sl <= 1125899906842624 := by unfold reachBytes at hlen; omega
   have hel : ∀ i, i < sl -> ∀ n ∈ (D i).weights prog 36, n <= reachBytes := fun i hi n hn => hwt n (.inr (.inl (wAll_mem (l := (List.range sl).map D) (i := i) (d := D i) (by simp [hi]) n hn)))
   clear hwt hlen
   cases sl with
   | zero => exact ⟨some a, m, [], rfl, by simp, by simp, .inl rfl⟩
   | succ k =>
    obtain ⟨cs', h1, _⟩ := hx 0 (by omega)
    rw [c37] at h1
    have hblk := World.cells?_block h1 (by decide)
    obtain ⟨_, hlen0, hcell0⟩ := World.cells?_some h1
    obtain ⟨sb, so, spot⟩ := a
    have hspot : spot = none := by
     have h0 := hcell0 0 (by decide)
     match cs', hlen0 with
     | v :: _, _ => simpa [Addr.add] using World.cell?_spot h0
    subst hspot
    have each : ∀ i, i < k + 1 -> ∃ x : LOp, Lx W sb (so + i * 5) x /\ LOk x := by
     intro i hi
     obtain ⟨cs', h1, h2⟩ := hx i (by omega)
     rw [c37] at h1
     obtain ⟨_, hlen, hcell⟩ := World.cells?_some h1
     obtain ⟨xs, k', hk, hxy, _, hxl, hf⟩ := DataW.trod_struct Tryz.underlying36 h2
     have heli := hel i hi
     simp only [Prod.mk.injEq] at hxy
     rw [hxy.1] at heli
     match cs', hlen with
     | [v0, v1, v2, v3, v4], _ =>
      have e0 := hcell 0 (by decide)
      have e1 := hcell 1 (by decide)
      have e2 := hcell 2 (by decide)
      have e3 := hcell 3 (by decide)
      have e4 := hcell 4 (by decide)
      rw [add5] at e0 e1 e2 e3 e4
      simp only [Nat.add_zero] at e0
      match xs, hxl with
      | [y0, y1, y2, y3, y4], _ =>
       have g0 := hf 0 _ rfl
       have g1 := hf 1 _ rfl
       have g2 := hf 2 _ rfl
       have g3 := hf 3 _ rfl
       have g4 := hf 4 _ rfl
       simp [c3, c9] at g0 g1 g2 g3 g4
       obtain ⟨n0, z0, _, w0⟩ := DataW.trod_int Tryz.underlying3 g0
       obtain ⟨n1, z1, _, w1⟩ := DataW.trod_int Tryz.underlying3 g1
       obtain ⟨n2, z2, _, w2⟩ := DataW.trod_int Tryz.underlying3 g2
       obtain ⟨n3, z3, _, w3⟩ := DataW.trod_int Tryz.underlying3 g3
       obtain ⟨s4, z4, y4e, w4⟩ := DataW.trod_string Tryz.underlying9 g4
       simp only [List.cons.injEq, and_true] at z0 z1 z2 z3 z4
       subst z0 z1 z2 z3 z4
       have b1 := int_bds w1
       have b2 := int_bds w2
       have b3 := int_bds w3
       refine ⟨⟨n0, n1, n2, n3, s4⟩, ⟨e0, e1, e2, e3, e4⟩, ⟨b1.1, b1.2, b2.1, b2.2, b3.1, b3.2, ?_⟩⟩
       subst y4e
       have hs4 := heli s4.size (by
        simp only [DataW.weights, Tryz.underlying36, List.map_cons, List.map_nil]
        exact DataW.weights_mem_each (j := 4) rfl rfl _ (by simp [DataW.weights]))
       unfold reachBytes at hs4
       show s4.size <= 1125899906842624
       omega
    haveI : Inhabited LOp := ⟨opsD⟩
    obtain ⟨f, hf⟩ := Deep.choose_lt each
    refine ⟨some ⟨sb, so, none⟩, m, (List.range (k + 1)).map f, by simp, by simp; omega, ?_, .inr ⟨sb, so, rfl, hblk, ?_⟩⟩
    . intro x hx'
      obtain ⟨i, hi, rfl⟩ := List.mem_map.1 hx'
      exact (hf i (List.mem_range.1 hi)).2
    . intro j hj
      have hj' : j < k + 1 := by simpa using hj
      have := (hf j hj').1
      simpa using this
theorem door_met (os : Os) (args : Array Value) : laidMetH prog laid3 ((World.doorLaid prog 400 os).forCall (fun _ _ => 0) ⟨#[], args, []⟩).memory :=
 laidMetH_of_parts3 (fuel := 8) (laidMet_of_run' 8 (by kernel_rfl) (by kernel_rfl)) (by kernel_rfl) (by kernel_rfl)
end
end Go.Proofs.YtmlgonbhoknoiabGreatDoor
