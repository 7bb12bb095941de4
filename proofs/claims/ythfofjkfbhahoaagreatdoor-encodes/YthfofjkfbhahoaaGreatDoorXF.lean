import Derived.Test.YthfofjkfbhahoaaGreatDoorXE
section
namespace Go.Proofs.YthfofjkfbhahoaaGreatDoor
open Go.RowKit
set_option linter.unusedSimpArgs false
/-- an instruction -/
structure Ins where
  op : Int
  rd : Int
  rs1 : Int
  rs2 : Int
  im : Int
  ln : Int
def insV (i : Ins) : Value := .agg #[.int .i64 i.op, .int .i64 i.rd, .int .i64 i.rs1, .int .i64 i.rs2, .int .i64 i.im, .int .i64 i.ln]
theorem hide {p : Prop} (h : p) : Hid p := h
def ins0 : Ins := ⟨0, 0, 0, 0, 0, 0⟩
/-- what a word means by a row of the project's tables -/
def rowIns (t : Int × ByteArray × Int) (W : Nat) : Ins :=
  ⟨t.1, (regOf t.2.1 68 W : Int) + regOf t.2.1 66 W + toldRd t.2.2, (regOf t.2.1 83 W : Int) + regOf t.2.1 66 W + toldRs1 t.2.2, regOf t.2.1 84 W, immOf t.2.1 (hasB t.2.2 1) W, (t.2.1.size : Int) / 8⟩
def rowFits (t : Int × ByteArray × Int) (W : Nat) : Bool :=
  Pic.fits (Pic.rv t.2.1.data.toList t.2.1.size) W && !rulesOut t.2.2 (rowIns t W).rd (rowIns t W).rs1 (rowIns t W).rs2 (rowIns t W).im
theorem below6 {w w1 : World} (h : Below w.heap.size w w1) (n : Nat) (hn : w.heap.size ≤ n) (a b c d e f : Value) :
    Below w.heap.size w ((((((w1.setCell ⟨n, 0, none⟩ a).setCell ⟨n, 1, none⟩ b).setCell ⟨n, 2, none⟩ c).setCell ⟨n, 3, none⟩ d).setCell ⟨n, 4, none⟩ e).setCell ⟨n, 5, none⟩ f) :=
  (((((h.setCell hn _).setCell hn _).setCell hn _).setCell hn _).setCell hn _).setCell hn _
set_option maxHeartbeats 4000000 in
theorem i_meaning_no1 (a : Int) (s : ByteArray) (hs : s.size ≤ 32) (r : Int) (W : Nat) (hW : W < 4294967296) (w : World) (hf : Pic.fits (Pic.rv s.data.toList s.size) W = false) :
    Calls Tryz.prog 107 #[.agg #[.int .i64 a, .string s, .int .i64 r], .int .i64 W] w fun e w' => e = .returned (.tuple #[.agg #[.int .i64 0, .int .i64 0, .int .i64 0, .int .i64 0, .int .i64 0, .int .i64 0], .bool false]) ∧ Below w.heap.size w w' := by
  go_enter Tryz.func107, Tryz.ntmps107
  go_wp2_with fail
  refine (i_fixed s hs W hW _).mono ?_
  rintro e w1 ⟨rfl, rfl⟩
  go_wp2
  exact bodyPost_ret (v := .tuple #[.agg #[.int .i64 0, .int .i64 0, .int .i64 0, .int .i64 0, .int .i64 0, .int .i64 0], .bool false]) (by simp [results, Tryz.results107, go_sem]) rfl ⟨rfl, ((Below.refl _ _).alloc (Nat.le_refl _) _).alloc (by simp) _⟩
set_option maxHeartbeats 4000000 in
theorem i_meaning_no2 (a : Int) (s : ByteArray) (hs : s.size ≤ 32) (r : Int) (W : Nat) (hW : W < 4294967296) (w : World) (hf : Pic.fits (Pic.rv s.data.toList s.size) W = true)
    (hro : rulesOut r ((regOf s 68 W : Int) + regOf s 66 W + toldRd r) ((regOf s 83 W : Int) + regOf s 66 W + toldRs1 r) (regOf s 84 W) (immOf s (hasB r 1) W) = true) :
    Calls Tryz.prog 107 #[.agg #[.int .i64 a, .string s, .int .i64 r], .int .i64 W] w fun e w' => e = .returned (.tuple #[.agg #[.int .i64 0, .int .i64 0, .int .i64 0, .int .i64 0, .int .i64 0, .int .i64 0], .bool false]) ∧ Below w.heap.size w w' := by
  go_enter Tryz.func107, Tryz.ntmps107
  go_wp2_with fail
  refine (i_fixed s hs W hW _).mono ?_
  rintro e w1 ⟨rfl, rfl⟩
  go_wp2_with fail
  refine (i_read a s hs r W hW _).mono ?_
  rintro e w1 ⟨rfl, hb1⟩
  obtain ⟨hc, hfz⟩ := bcell hb1
  have hz : w.heap.size + 1 < w1.heap.size := by have := hb1.size; simp at this; omega
  have hz0 : w.heap.size < w1.heap.size := by omega
  have bb : Hid (Below w.heap.size w w1) := ((((Below.refl _ _).alloc (Nat.le_refl _) _).alloc (by simp) _)).trans (hb1.mono (by simp; omega))
  have hb1' := hide hb1
  clear hb1
  go_wp2_with fail
  refine (i_rulesOut a s r _ _ _ _ _ _ _).mono ?_
  rintro e w2 ⟨rfl, hb2⟩
  obtain ⟨hc2, hfz2⟩ := bcell hb2
  have hz2 : w1.heap.size < w2.heap.size := by have := hb2.size; simp at this; omega
  have hz3 : w.heap.size + 1 < w2.heap.size := by omega
  have b2 : Hid (Below w.heap.size w w2) := (bb.out.alloc (by omega) _).trans (hb2.mono (by simp; omega))
  have hB := (hb1'.out.alloc (by simp; omega) _).trans (hb2.mono (by simp; omega))
  have y0 : w2.cell? ⟨w.heap.size + 1, 0, none⟩ = some (.int .i64 0) := (hB.cell (p := ⟨w.heap.size + 1, 0, none⟩) (by simp)).trans (by simp)
  have y1 : w2.cell? ⟨w.heap.size + 1, 1, none⟩ = some (.int .i64 0) := (hB.cell (p := ⟨w.heap.size + 1, 1, none⟩) (by simp)).trans (by simp)
  have y2 : w2.cell? ⟨w.heap.size + 1, 2, none⟩ = some (.int .i64 0) := (hB.cell (p := ⟨w.heap.size + 1, 2, none⟩) (by simp)).trans (by simp)
  have y3 : w2.cell? ⟨w.heap.size + 1, 3, none⟩ = some (.int .i64 0) := (hB.cell (p := ⟨w.heap.size + 1, 3, none⟩) (by simp)).trans (by simp)
  have y4 : w2.cell? ⟨w.heap.size + 1, 4, none⟩ = some (.int .i64 0) := (hB.cell (p := ⟨w.heap.size + 1, 4, none⟩) (by simp)).trans (by simp)
  have y5 : w2.cell? ⟨w.heap.size + 1, 5, none⟩ = some (.int .i64 0) := (hB.cell (p := ⟨w.heap.size + 1, 5, none⟩) (by simp)).trans (by simp)
  have g1 : ∀ o, w2.frozen? ⟨w.heap.size + 1, o, none⟩ = false := fun o => (hB.frozen (p := ⟨w.heap.size + 1, o, none⟩) (by simp)).trans (by simp)
  have x0 : w2.cell? ⟨w1.heap.size, 0, none⟩ = some (.int .i64 a) := (hc2 _ _ (by simp)).trans (by simp)
  have x1 : w2.cell? ⟨w1.heap.size, 1, none⟩ = some (.int .i64 ((regOf s 68 W : Int) + regOf s 66 W + toldRd r)) := (hc2 _ _ (by simp)).trans (by simp)
  have x2 : w2.cell? ⟨w1.heap.size, 2, none⟩ = some (.int .i64 ((regOf s 83 W : Int) + regOf s 66 W + toldRs1 r)) := (hc2 _ _ (by simp)).trans (by simp)
  have x3 : w2.cell? ⟨w1.heap.size, 3, none⟩ = some (.int .i64 (regOf s 84 W)) := (hc2 _ _ (by simp)).trans (by simp)
  have x4 : w2.cell? ⟨w1.heap.size, 4, none⟩ = some (.int .i64 (immOf s (hasB r 1) W)) := (hc2 _ _ (by simp)).trans (by simp)
  have x5 : w2.cell? ⟨w1.heap.size, 5, none⟩ = some (.int .i64 ((s.size : Int) / 8)) := (hc2 _ _ (by simp)).trans (by simp)
  clear hb2 bb hb1' hB hc hfz hc2 hfz2
  go_wp2
  exact bodyPost_ret (v := .tuple #[.agg #[.int .i64 0, .int .i64 0, .int .i64 0, .int .i64 0, .int .i64 0, .int .i64 0], .bool false]) (by simp [results, Tryz.results107, go_sem, y0, y1, y2, y3, y4, y5]) rfl ⟨rfl, below6 b2.out _ (by simp) _ _ _ _ _ _⟩
set_option maxHeartbeats 4000000 in
theorem i_meaning_yes (a : Int) (s : ByteArray) (hs : s.size ≤ 32) (r : Int) (W : Nat) (hW : W < 4294967296) (w : World) (hf : Pic.fits (Pic.rv s.data.toList s.size) W = true)
    (hro : rulesOut r ((regOf s 68 W : Int) + regOf s 66 W + toldRd r) ((regOf s 83 W : Int) + regOf s 66 W + toldRs1 r) (regOf s 84 W) (immOf s (hasB r 1) W) = false) :
    Calls Tryz.prog 107 #[.agg #[.int .i64 a, .string s, .int .i64 r], .int .i64 W] w fun e w' => e = .returned (.tuple #[.agg #[.int .i64 a, .int .i64 ((regOf s 68 W : Int) + regOf s 66 W + toldRd r), .int .i64 ((regOf s 83 W : Int) + regOf s 66 W + toldRs1 r), .int .i64 (regOf s 84 W), .int .i64 (immOf s (hasB r 1) W), .int .i64 ((s.size : Int) / 8)], .bool true]) ∧ Below w.heap.size w w' := by
  go_enter Tryz.func107, Tryz.ntmps107
  go_wp2_with fail
  refine (i_fixed s hs W hW _).mono ?_
  rintro e w1 ⟨rfl, rfl⟩
  go_wp2_with fail
  refine (i_read a s hs r W hW _).mono ?_
  rintro e w1 ⟨rfl, hb1⟩
  obtain ⟨hc, hfz⟩ := bcell hb1
  have hz : w.heap.size + 1 < w1.heap.size := by have := hb1.size; simp at this; omega
  have hz0 : w.heap.size < w1.heap.size := by omega
  have bb : Hid (Below w.heap.size w w1) := ((((Below.refl _ _).alloc (Nat.le_refl _) _).alloc (by simp) _)).trans (hb1.mono (by simp; omega))
  have hb1' := hide hb1
  clear hb1
  go_wp2_with fail
  refine (i_rulesOut a s r _ _ _ _ _ _ _).mono ?_
  rintro e w2 ⟨rfl, hb2⟩
  obtain ⟨hc2, hfz2⟩ := bcell hb2
  have hz2 : w1.heap.size < w2.heap.size := by have := hb2.size; simp at this; omega
  have hz3 : w.heap.size + 1 < w2.heap.size := by omega
  have b2 : Hid (Below w.heap.size w w2) := (bb.out.alloc (by omega) _).trans (hb2.mono (by simp; omega))
  have hB := (hb1'.out.alloc (by simp; omega) _).trans (hb2.mono (by simp; omega))
  have y0 : w2.cell? ⟨w.heap.size + 1, 0, none⟩ = some (.int .i64 0) := (hB.cell (p := ⟨w.heap.size + 1, 0, none⟩) (by simp)).trans (by simp)
  have y1 : w2.cell? ⟨w.heap.size + 1, 1, none⟩ = some (.int .i64 0) := (hB.cell (p := ⟨w.heap.size + 1, 1, none⟩) (by simp)).trans (by simp)
  have y2 : w2.cell? ⟨w.heap.size + 1, 2, none⟩ = some (.int .i64 0) := (hB.cell (p := ⟨w.heap.size + 1, 2, none⟩) (by simp)).trans (by simp)
  have y3 : w2.cell? ⟨w.heap.size + 1, 3, none⟩ = some (.int .i64 0) := (hB.cell (p := ⟨w.heap.size + 1, 3, none⟩) (by simp)).trans (by simp)
  have y4 : w2.cell? ⟨w.heap.size + 1, 4, none⟩ = some (.int .i64 0) := (hB.cell (p := ⟨w.heap.size + 1, 4, none⟩) (by simp)).trans (by simp)
  have y5 : w2.cell? ⟨w.heap.size + 1, 5, none⟩ = some (.int .i64 0) := (hB.cell (p := ⟨w.heap.size + 1, 5, none⟩) (by simp)).trans (by simp)
  have g1 : ∀ o, w2.frozen? ⟨w.heap.size + 1, o, none⟩ = false := fun o => (hB.frozen (p := ⟨w.heap.size + 1, o, none⟩) (by simp)).trans (by simp)
  have x0 : w2.cell? ⟨w1.heap.size, 0, none⟩ = some (.int .i64 a) := (hc2 _ _ (by simp)).trans (by simp)
  have x1 : w2.cell? ⟨w1.heap.size, 1, none⟩ = some (.int .i64 ((regOf s 68 W : Int) + regOf s 66 W + toldRd r)) := (hc2 _ _ (by simp)).trans (by simp)
  have x2 : w2.cell? ⟨w1.heap.size, 2, none⟩ = some (.int .i64 ((regOf s 83 W : Int) + regOf s 66 W + toldRs1 r)) := (hc2 _ _ (by simp)).trans (by simp)
  have x3 : w2.cell? ⟨w1.heap.size, 3, none⟩ = some (.int .i64 (regOf s 84 W)) := (hc2 _ _ (by simp)).trans (by simp)
  have x4 : w2.cell? ⟨w1.heap.size, 4, none⟩ = some (.int .i64 (immOf s (hasB r 1) W)) := (hc2 _ _ (by simp)).trans (by simp)
  have x5 : w2.cell? ⟨w1.heap.size, 5, none⟩ = some (.int .i64 ((s.size : Int) / 8)) := (hc2 _ _ (by simp)).trans (by simp)
  clear hb2 bb hb1' hB hc hfz hc2 hfz2
  go_wp2
  exact bodyPost_ret (v := .tuple #[.agg #[.int .i64 a, .int .i64 ((regOf s 68 W : Int) + regOf s 66 W + toldRd r), .int .i64 ((regOf s 83 W : Int) + regOf s 66 W + toldRs1 r), .int .i64 (regOf s 84 W), .int .i64 (immOf s (hasB r 1) W), .int .i64 ((s.size : Int) / 8)], .bool true]) (by simp [results, Tryz.results107, go_sem, y0, y1, y2, y3, y4, y5]) rfl ⟨rfl, below6 b2.out _ (by simp) _ _ _ _ _ _⟩
theorem i_meaning (t : Int × ByteArray × Int) (hs : t.2.1.size ≤ 32) (W : Nat) (hW : W < 4294967296) (w : World) :
    Calls Tryz.prog 107 #[.agg #[.int .i64 t.1, .string t.2.1, .int .i64 t.2.2], .int .i64 W] w fun e w' =>
      e = .returned (.tuple #[insV (if rowFits t W = true then rowIns t W else ins0), .bool (rowFits t W)]) ∧ Below w.heap.size w w' := by
  cases hf : Pic.fits (Pic.rv t.2.1.data.toList t.2.1.size) W
  · have e : rowFits t W = false := by simp [rowFits, hf]
    rw [e]
    exact i_meaning_no1 t.1 t.2.1 hs t.2.2 W hW w hf
  · cases hro : rulesOut t.2.2 (rowIns t W).rd (rowIns t W).rs1 (rowIns t W).rs2 (rowIns t W).im
    · have e : rowFits t W = true := by simp [rowFits, hf, hro]
      rw [e]
      exact i_meaning_yes t.1 t.2.1 hs t.2.2 W hW w hf hro
    · have e : rowFits t W = false := by simp [rowFits, hf, hro]
      rw [e]
      exact i_meaning_no2 t.1 t.2.1 hs t.2.2 W hW w hf hro
def sizeOf (w : Int) : Int := if w < 0 ∨ 4294967295 < w then 0 else if w % 4 = 3 then 4 else if w ≤ 65535 then 2 else 0
set_option maxHeartbeats 400000 in
theorem i_sizeOf (x : Int) (w : World) :
    Calls Tryz.prog 104 #[.int .i64 x] w fun e w' => e = .returned (.int .i64 (sizeOf x)) ∧ w' = w := by
  have h3 := and_three x
  by_cases c1 : x < 0
  · go_enter Tryz.func104, Tryz.ntmps104
    go_wp2
    go_ret
    exact ⟨congrArg (fun z => Ending.returned (Value.int .i64 z)) (by unfold sizeOf; rw [if_pos (by omega)]), rfl⟩
  by_cases c2 : 4294967295 < x
  · go_enter Tryz.func104, Tryz.ntmps104
    go_wp2
    go_ret
    exact ⟨congrArg (fun z => Ending.returned (Value.int .i64 z)) (by unfold sizeOf; rw [if_pos (by omega)]), rfl⟩
  by_cases c3 : x % 4 = 3
  · have c3' : (x % 4 == 3) = true := by rw [beq_iff_eq]; exact c3
    have C3 : Hid (x % 4 = 3) := c3
    clear c3
    go_enter Tryz.func104, Tryz.ntmps104
    go_wp2
    go_ret
    exact ⟨congrArg (fun z => Ending.returned (Value.int .i64 z)) (by unfold sizeOf; rw [if_neg (by omega), if_pos C3.out]), rfl⟩
  have c3' : (x % 4 == 3) = false := by rw [beq_eq_false_iff_ne]; exact c3
  by_cases c4 : x ≤ 65535
  · go_enter Tryz.func104, Tryz.ntmps104
    go_wp2
    go_ret
    exact ⟨congrArg (fun z => Ending.returned (Value.int .i64 z)) (by unfold sizeOf; rw [if_neg (by omega), if_neg c3, if_pos c4]), rfl⟩
  · go_enter Tryz.func104, Tryz.ntmps104
    go_wp2
    go_ret
    exact ⟨congrArg (fun z => Ending.returned (Value.int .i64 z)) (by unfold sizeOf; rw [if_neg (by omega), if_neg c3, if_neg (by omega)]), rfl⟩
def rowCount (n : Int) : Int := bif n == 4 then 70 else bif n == 2 then 26 else 0
set_option maxHeartbeats 400000 in
theorem i_rowCount (x : Int) (w : World) :
    Calls Tryz.prog 105 #[.int .i64 x] w fun e w' => e = .returned (.int .i64 (rowCount x)) ∧ w' = w := by
  unfold rowCount
  cases h4 : (x == 4)
  · cases h2 : (x == 2)
    · go_enter Tryz.func105, Tryz.ntmps105
      go_wp2
      go_ret
      exact ⟨rfl, rfl⟩
    · go_enter Tryz.func105, Tryz.ntmps105
      go_wp2
      go_ret
      exact ⟨rfl, rfl⟩
  · go_enter Tryz.func105, Tryz.ntmps105
    go_wp2
    go_ret
    exact ⟨rfl, rfl⟩
def sameB (a b : Ins) : Bool := a.op == b.op && a.rd == b.rd && a.rs1 == b.rs1 && a.rs2 == b.rs2 && a.im == b.im && a.ln == b.ln
set_option maxHeartbeats 2000000 in
theorem i_same (a b : Ins) (w : World) :
    Calls Tryz.prog 112 #[insV a, insV b] w fun e w' => e = .returned (.bool (sameB a b)) ∧ Below w.heap.size w w' := by
  unfold sameB insV
  cases h0 : (a.op == b.op)
  · go_enter Tryz.func112, Tryz.ntmps112
    go_wp2
    go_ret
    exact ⟨rfl, ((Below.refl _ _).alloc (Nat.le_refl _) _).alloc (by simp) _⟩
  cases h1 : (a.rd == b.rd)
  · go_enter Tryz.func112, Tryz.ntmps112
    go_wp2
    go_ret
    exact ⟨rfl, ((Below.refl _ _).alloc (Nat.le_refl _) _).alloc (by simp) _⟩
  cases h2 : (a.rs1 == b.rs1)
  · go_enter Tryz.func112, Tryz.ntmps112
    go_wp2
    go_ret
    exact ⟨rfl, ((Below.refl _ _).alloc (Nat.le_refl _) _).alloc (by simp) _⟩
  cases h3 : (a.rs2 == b.rs2)
  · go_enter Tryz.func112, Tryz.ntmps112
    go_wp2
    go_ret
    exact ⟨rfl, ((Below.refl _ _).alloc (Nat.le_refl _) _).alloc (by simp) _⟩
  cases h4 : (a.im == b.im)
  · go_enter Tryz.func112, Tryz.ntmps112
    go_wp2
    go_ret
    exact ⟨rfl, ((Below.refl _ _).alloc (Nat.le_refl _) _).alloc (by simp) _⟩
  cases h5 : (a.ln == b.ln)
  · go_enter Tryz.func112, Tryz.ntmps112
    go_wp2
    go_ret
    exact ⟨rfl, ((Below.refl _ _).alloc (Nat.le_refl _) _).alloc (by simp) _⟩
  go_enter Tryz.func112, Tryz.ntmps112
  go_wp2
  go_ret
  exact ⟨rfl, ((Below.refl _ _).alloc (Nat.le_refl _) _).alloc (by simp) _⟩
end Go.Proofs.YthfofjkfbhahoaaGreatDoor
end
section
namespace Go.Proofs.YthfofjkfbhahoaaGreatDoor
open Go.RowKit
set_option linter.unusedSimpArgs false
/-- the first of m numbers from n on at which f finds something -/
def scan (f : Nat → Option Ins) : Nat → Nat → Option Ins
  | _, 0 => none
  | n, m + 1 => match f n with
    | some i => some i
    | none => scan f (n + 1) m
def rowMeans (size : Int) (W : Nat) (n : Nat) : Option Ins := if rowFits (rowAt size n) W = true then some (rowIns (rowAt size n) W) else none
def decodeD (x : Int) : Ins × Int :=
  if sizeOf x = 0 then (ins0, 2) else
  match scan (rowMeans (sizeOf x) x.toNat) 1 (rowCount (sizeOf x)).toNat with
  | some i => (i, 0)
  | none => (⟨0, 0, 0, 0, 0, sizeOf x⟩, 0)
theorem scan_step (f : Nat → Option Ins) (n m : Nat) : scan f n (m + 1) = match f n with | some i => some i | none => scan f (n + 1) m := rfl
theorem long_small : ((List.range 71).all fun n => decide ((Tab.longRow n).2.1.size ≤ 32)) = true := by decide +kernel
theorem short_small : ((List.range 27).all fun n => decide ((Tab.shortRow n).2.1.size ≤ 32)) = true := by decide +kernel
theorem row_small (size : Int) (h : size = 4 ∨ size = 2) (n : Nat) (hn : (n : Int) ≤ rowCount size) : (rowAt size n).2.1.size ≤ 32 := by
  rcases h with rfl | rfl
  · have h1 := List.all_eq_true.1 long_small n (by simp [rowCount] at hn; simp; omega)
    simpa [rowAt] using h1
  · have h1 := List.all_eq_true.1 short_small n (by simp [rowCount] at hn; simp; omega)
    simpa [rowAt] using h1
theorem size_ways (x : Int) : sizeOf x = 0 ∨ ((sizeOf x = 4 ∨ sizeOf x = 2) ∧ 0 ≤ x ∧ x < 4294967296) := by
  unfold sizeOf
  split
  · exact .inl rfl
  · split
    · exact .inr ⟨.inl rfl, by omega, by omega⟩
    · split
      · exact .inr ⟨.inr rfl, by omega, by omega⟩
      · exact .inl rfl
set_option maxHeartbeats 400000 in
theorem i_Decode_no (x : Int) (h : sizeOf x = 0) (w : World) :
    Calls Tryz.prog 68 #[.int .i64 x] w fun e w' => e = .returned (.tuple #[insV ins0, .int .i64 2]) ∧ Below w.heap.size w w' := by
  unfold insV ins0
  go_enter Tryz.func68, Tryz.ntmps68
  go_wp2_with fail
  refine (i_sizeOf x _).mono ?_
  rintro e w1 ⟨rfl, rfl⟩
  rw [h]
  go_wp2
  exact bodyPost_ret (v := .tuple #[.agg #[.int .i64 0, .int .i64 0, .int .i64 0, .int .i64 0, .int .i64 0, .int .i64 0], .int .i64 2]) (by simp [results, Tryz.results68, go_sem]) rfl ⟨rfl, (Below.refl _ _).alloc (Nat.le_refl _) _⟩
/-- the block behind w is an instruction of zeros that may be written -/
structure Zed (w wr : World) : Prop where
  below : Below w.heap.size w wr
  lt : w.heap.size < wr.heap.size
  c0 : wr.cell? ⟨w.heap.size, 0, none⟩ = some (.int .i64 0)
  c1 : wr.cell? ⟨w.heap.size, 1, none⟩ = some (.int .i64 0)
  c2 : wr.cell? ⟨w.heap.size, 2, none⟩ = some (.int .i64 0)
  c3 : wr.cell? ⟨w.heap.size, 3, none⟩ = some (.int .i64 0)
  c4 : wr.cell? ⟨w.heap.size, 4, none⟩ = some (.int .i64 0)
  c5 : wr.cell? ⟨w.heap.size, 5, none⟩ = some (.int .i64 0)
  fro : ∀ o, wr.frozen? ⟨w.heap.size, o, none⟩ = false
theorem Zed.start (w : World) (t : TypeId) : Zed w (w.alloc (.cells #[.int .i64 0, .int .i64 0, .int .i64 0, .int .i64 0, .int .i64 0, .int .i64 0] t)) :=
  ⟨(Below.refl _ _).alloc (Nat.le_refl _) _, by simp, by simp, by simp, by simp, by simp, by simp, by simp, by intro o; simp⟩
theorem Zed.more {w wr w' : World} (h : Zed w wr) (hb : Below wr.heap.size wr w') : Zed w w' :=
  ⟨h.below.trans (hb.mono (Nat.le_of_lt h.lt)), Nat.lt_of_lt_of_le h.lt hb.size, (hb.cell (p := ⟨w.heap.size, 0, none⟩) h.lt).trans h.c0, (hb.cell (p := ⟨w.heap.size, 1, none⟩) h.lt).trans h.c1,
    (hb.cell (p := ⟨w.heap.size, 2, none⟩) h.lt).trans h.c2, (hb.cell (p := ⟨w.heap.size, 3, none⟩) h.lt).trans h.c3, (hb.cell (p := ⟨w.heap.size, 4, none⟩) h.lt).trans h.c4,
    (hb.cell (p := ⟨w.heap.size, 5, none⟩) h.lt).trans h.c5, fun o => (hb.frozen (p := ⟨w.heap.size, o, none⟩) h.lt).trans (h.fro o)⟩
theorem Zed.alloc {w wr : World} (h : Zed w wr) (o : Obj) : Zed w (wr.alloc o) := h.more ((Below.refl _ _).alloc (Nat.le_refl _) _)
theorem sc_hit {size : Int} {W n : Nat} {m T : Option Ins} {t : Int × ByteArray × Int} (ht : Hid (t = rowAt size n)) (hf : rowFits t W = true)
    (h : Hid ((match rowMeans size W n with | some i => some i | none => m) = T)) : T = some (rowIns t W) := by
  rw [← h.out, rowMeans, ← ht.out, if_pos hf]
theorem sc_miss {size : Int} {W n : Nat} {m T : Option Ins} {t : Int × ByteArray × Int} (ht : Hid (t = rowAt size n)) (hf : rowFits t W = false)
    (h : Hid ((match rowMeans size W n with | some i => some i | none => m) = T)) : Hid (m = T) := by
  show m = T
  rw [← h.out, rowMeans, ← ht.out, if_neg (by rw [hf]; decide)]
set_option maxHeartbeats 2000000 in
theorem i_Decode_yes (W : Nat) (hW : W < 4294967296) (size : Int) (hsz : size = 4 ∨ size = 2) (hsize : Hid (sizeOf (W : Int) = size)) (w : World) :
    Calls Tryz.prog 68 #[.int .i64 W] w fun e w' => (∃ i, e = .returned (.tuple #[insV i, .int .i64 0]) ∧ Hid (i = (scan (rowMeans size W) 1 (rowCount size).toNat).getD ⟨0, 0, 0, 0, 0, size⟩)) ∧ Below w.heap.size w w' := by
  have hn0 : (size == 0) = false := by rcases hsz with rfl | rfl <;> rfl
  obtain ⟨C, hC⟩ : ∃ C : Nat, (C : Int) = rowCount size := by rcases hsz with rfl | rfl; exact ⟨70, rfl⟩; exact ⟨26, rfl⟩
  have hC70 : C ≤ 70 := by rcases hsz with rfl | rfl <;> simp [rowCount] at hC <;> omega
  have hCC : Hid ((C : Int) = rowCount size) := hC
  rw [← hC, Int.toNat_natCast]
  clear hC
  go_enter Tryz.func68, Tryz.ntmps68
  go_wp2_with fail
  refine (i_sizeOf W _).mono ?_
  rintro e w1 ⟨rfl, rfl⟩
  rw [hsize.out]
  go_wp2_with fail
  refine (i_rowCount size _).mono ?_
  rintro e w1 ⟨rfl, rfl⟩
  rw [← hCC.out]
  go_wp2_with fail
  go_loopw [6] (fun k wr => ∃ n : Nat, 1 ≤ n ∧ n ≤ C + 1 ∧ k = .int .i64 n ∧ Zed w wr ∧ Hid (scan (rowMeans size W) n (C + 1 - n) = scan (rowMeans size W) 1 C)) (fun k _ => C + 1 - (intOf k).toNat)
  case atStart => exact ⟨1, by omega, by omega, rfl, Zed.start _ _, rfl⟩
  case round =>
    obtain ⟨n, hn1, hn2, rfl, hz, hsc⟩ := hrel
    by_cases hnC : n ≤ C
    · have hbd := row_small size hsz n (by rw [← hCC.out]; omega)
      have hstep := scan_step (rowMeans size W) n (C - n)
      rw [show C - n + 1 = C + 1 - n by omega] at hstep
      rw [hstep] at hsc
      clear hstep
      go_wp2_with fail
      refine (i_rowAt size n _).mono ?_
      rintro e w1 ⟨rfl, hb1⟩
      obtain ⟨t, ht⟩ : ∃ t, t = rowAt size n := ⟨_, rfl⟩
      rw [← ht] at hbd ⊢
      have HT : Hid (t = rowAt size n) := ht
      clear ht
      replace hz := hz.more hb1
      clear hb1
      simp only [rowV]
      go_wp2_with fail
      refine (i_meaning t hbd W hW _).mono ?_
      rintro e w2 ⟨rfl, hb2⟩
      replace hz := (hz.alloc _).more hb2
      clear hb2
      have z0 := hz.c0
      have z1 := hz.c1
      have z2 := hz.c2
      have z3 := hz.c3
      have z4 := hz.c4
      have z5 := hz.c5
      have zf := hz.fro
      have hlt := hz.lt
      cases hf : rowFits t W
      · have hm := sc_miss HT hf hsc
        clear hsc
        simp only [insV, ins0]
        go_wp2
        go_roundw
        case rel => exact ⟨n + 1, by omega, by omega, by go_num, hz.alloc _, by rw [show C + 1 - (n + 1) = C - n by omega]; exact hm⟩
        case measure => simp [intOf]; omega
      · have hm := hide (sc_hit HT hf hsc)
        clear hsc
        obtain ⟨i, hi⟩ : ∃ i, i = rowIns t W := ⟨_, rfl⟩
        have HI := hide hi
        simp only [if_true]
        rw [← hi]
        clear hi
        simp only [insV]
        go_wp2
        refine bodyPost_ret (v := .tuple #[.agg #[.int .i64 i.op, .int .i64 i.rd, .int .i64 i.rs1, .int .i64 i.rs2, .int .i64 i.im, .int .i64 i.ln], .int .i64 0]) (by simp [results, Tryz.results68, go_sem, z0, z1, z2, z3, z4, z5, hlt]) rfl ⟨⟨i, rfl, ?_⟩, ?_⟩
        · show i = _
          rw [hm.out, HI.out]; rfl
        · exact (below6 hz.below _ (Nat.le_refl _) _ _ _ _ _ _).alloc (by simp; omega) _
    · have h0 : C + 1 - n = 0 := by omega
      rw [h0] at hsc
      have z0 := hz.c0
      have z1 := hz.c1
      have z2 := hz.c2
      have z3 := hz.c3
      have z4 := hz.c4
      have z5 := hz.c5
      have zf := hz.fro
      have hlt := hz.lt
      go_wp2
      refine bodyPost_ret (v := .tuple #[.agg #[.int .i64 0, .int .i64 0, .int .i64 0, .int .i64 0, .int .i64 0, .int .i64 size], .int .i64 0]) (by simp [results, Tryz.results68, go_sem, z0, z1, z2, z3, z4, z5]) rfl ⟨⟨⟨0, 0, 0, 0, 0, size⟩, rfl, ?_⟩, ?_⟩
      · rw [← hsc.out]; rfl
      · exact below6 hz.below _ (Nat.le_refl _) _ _ _ _ _ _
theorem i_Decode (x : Int) (w : World) :
    Calls Tryz.prog 68 #[.int .i64 x] w fun e w' => e = .returned (.tuple #[insV (decodeD x).1, .int .i64 (decodeD x).2]) ∧ Below w.heap.size w w' := by
  rcases size_ways x with h | ⟨h, h0, h1⟩
  · have e : decodeD x = (ins0, 2) := by unfold decodeD; rw [if_pos h]
    rw [e]
    exact i_Decode_no x h w
  · obtain ⟨W, rfl⟩ := Int.eq_ofNat_of_zero_le h0
    have hne : ¬ sizeOf (W : Int) = 0 := by rcases h with h | h <;> rw [h] <;> decide
    refine (i_Decode_yes W (by omega) _ h rfl w).mono ?_
    rintro e w' ⟨⟨i, rfl, hi⟩, hb⟩
    have hD : decodeD (W : Int) = (i, 0) := by
      unfold decodeD
      rw [if_neg hne, Int.toNat_natCast]
      have := hi.out
      cases hs : scan (rowMeans (sizeOf (W : Int)) W) 1 (rowCount (sizeOf (W : Int))).toNat with
      | none => rw [hs] at this; rw [this]; rfl
      | some j => rw [hs] at this; rw [this]; rfl
    rw [hD]
    exact ⟨rfl, hb⟩
end Go.Proofs.YthfofjkfbhahoaaGreatDoor
end
section
namespace Go.Proofs.YthfofjkfbhahoaaGreatDoor
open Go.RowKit
set_option linter.unusedSimpArgs false
def rowDraw (t : Int × ByteArray × Int) (i : Ins) : Nat := Pic.draw (Pic.rv t.2.1.data.toList t.2.1.size) i.rd i.rs1 i.rs2 i.im
/-- what one row gives for an instruction -/
def rowWord (i : Ins) (n : Nat) : Option Nat :=
  if (rowAt i.ln n).1 = i.op ∧ rowFits (rowAt i.ln n) (rowDraw (rowAt i.ln n) i) = true ∧ sameB (rowIns (rowAt i.ln n) (rowDraw (rowAt i.ln n) i)) i = true then some (rowDraw (rowAt i.ln n) i) else none
def better (st x : Option Nat) : Option Nat :=
  match x with
  | none => st
  | some b => match st with
    | none => some b
    | some a => if b < a then some b else some a
def least (i : Ins) : Option Nat → Nat → Nat → Option Nat
  | st, _, 0 => st
  | st, n, m + 1 => least i (better st (rowWord i n)) (n + 1) m
theorem least_step (i : Ins) (st : Option Nat) (n m : Nat) : least i st n (m + 1) = least i (better st (rowWord i n)) (n + 1) m := rfl
def encodeD (i : Ins) : Int × Int :=
  match least i none 1 (rowCount i.ln).toNat with
  | some b => (b, 0)
  | none => (0, 3)
/-- the block behind w holds an instruction -/
structure Ized (i : Ins) (w wr : World) : Prop where
  below : Below w.heap.size w wr
  lt : w.heap.size < wr.heap.size
  c0 : wr.cell? ⟨w.heap.size, 0, none⟩ = some (.int .i64 i.op)
  c1 : wr.cell? ⟨w.heap.size, 1, none⟩ = some (.int .i64 i.rd)
  c2 : wr.cell? ⟨w.heap.size, 2, none⟩ = some (.int .i64 i.rs1)
  c3 : wr.cell? ⟨w.heap.size, 3, none⟩ = some (.int .i64 i.rs2)
  c4 : wr.cell? ⟨w.heap.size, 4, none⟩ = some (.int .i64 i.im)
  c5 : wr.cell? ⟨w.heap.size, 5, none⟩ = some (.int .i64 i.ln)
theorem Ized.start (i : Ins) (w : World) (t : TypeId) : Ized i w (w.alloc (.cells #[.int .i64 i.op, .int .i64 i.rd, .int .i64 i.rs1, .int .i64 i.rs2, .int .i64 i.im, .int .i64 i.ln] t)) :=
  ⟨(Below.refl _ _).alloc (Nat.le_refl _) _, by simp, by simp, by simp, by simp, by simp, by simp, by simp⟩
theorem Ized.more {i : Ins} {w wr w' : World} (h : Ized i w wr) (hb : Below wr.heap.size wr w') : Ized i w w' :=
  ⟨h.below.trans (hb.mono (Nat.le_of_lt h.lt)), Nat.lt_of_lt_of_le h.lt hb.size, (hb.cell (p := ⟨w.heap.size, 0, none⟩) h.lt).trans h.c0, (hb.cell (p := ⟨w.heap.size, 1, none⟩) h.lt).trans h.c1,
    (hb.cell (p := ⟨w.heap.size, 2, none⟩) h.lt).trans h.c2, (hb.cell (p := ⟨w.heap.size, 3, none⟩) h.lt).trans h.c3, (hb.cell (p := ⟨w.heap.size, 4, none⟩) h.lt).trans h.c4,
    (hb.cell (p := ⟨w.heap.size, 5, none⟩) h.lt).trans h.c5⟩
theorem Ized.alloc {i : Ins} {w wr : World} (h : Ized i w wr) (o : Obj) : Ized i w (wr.alloc o) := h.more ((Below.refl _ _).alloc (Nat.le_refl _) _)
theorem draw_bd (t : Int × ByteArray × Int) (hs : t.2.1.size ≤ 32) (i : Ins) : rowDraw t i < 4294967296 := by
  have h := Pic.draw_lt (Pic.rv t.2.1.data.toList t.2.1.size) i.rd i.rs1 i.rs2 i.im
  rw [Pic.rv_length _ _ (by simp)] at h
  have c : 2 ^ t.2.1.size ≤ 2 ^ 32 := Nat.pow_le_pow_right (by decide) hs
  have d : (2 : Nat) ^ 32 = 4294967296 := by decide
  unfold rowDraw
  omega
theorem ww_op {i : Ins} {n : Nat} {t : Int × ByteArray × Int} (ht : Hid (t = rowAt i.ln n)) (h : ¬ t.1 = i.op) : rowWord i n = none := by
  unfold rowWord; rw [← ht.out, if_neg (fun hh => h hh.1)]
theorem ww_fit {i : Ins} {n : Nat} {t : Int × ByteArray × Int} (ht : Hid (t = rowAt i.ln n)) (h : rowFits t (rowDraw t i) = false) : rowWord i n = none := by
  unfold rowWord; rw [← ht.out, if_neg (fun hh => by rw [h] at hh; cases hh.2.1)]
theorem ww_same {i : Ins} {n : Nat} {t : Int × ByteArray × Int} (ht : Hid (t = rowAt i.ln n)) (h : sameB (rowIns t (rowDraw t i)) i = false) : rowWord i n = none := by
  unfold rowWord; rw [← ht.out, if_neg (fun hh => by rw [h] at hh; cases hh.2.2)]
theorem ww_yes {i : Ins} {n : Nat} {t : Int × ByteArray × Int} (ht : Hid (t = rowAt i.ln n)) (h1 : t.1 = i.op) (h2 : rowFits t (rowDraw t i) = true) (h3 : sameB (rowIns t (rowDraw t i)) i = true) : rowWord i n = some (rowDraw t i) := by
  unfold rowWord; rw [← ht.out, if_pos ⟨h1, h2, h3⟩]
set_option maxHeartbeats 4000000 in
theorem i_Encode' (i : Ins) (C : Nat) (hC70 : C ≤ 70) (hCC : Hid ((C : Int) = rowCount i.ln)) (w : World) :
    Calls Tryz.prog 70 #[insV i] w fun e w' => (∃ st : Option Nat, Hid (st = least i none 1 C) ∧ e = .returned (.tuple #[.int .i64 (st.getD 0 : Nat), .int .i64 (bif st.isSome then 0 else 3)])) ∧ Below w.heap.size w w' := by
  unfold insV
  go_enter Tryz.func70, Tryz.ntmps70
  go_wp2_with fail
  refine (i_rowCount i.ln _).mono ?_
  rintro e w1 ⟨rfl, rfl⟩
  rw [← hCC.out]
  go_wp2_with fail
  go_loopw [4, 5, 7] (fun l f k wr => ∃ (n : Nat) (st : Option Nat), 1 ≤ n ∧ n ≤ C + 1 ∧ k = .int .i64 n ∧ l = .int .i64 (st.getD 0 : Nat) ∧ f = .bool st.isSome ∧ Ized i w wr ∧ Hid (least i st n (C + 1 - n) = least i none 1 C)) (fun _ _ k _ => C + 1 - (intOf k).toNat)
  case atStart => exact ⟨1, none, by omega, by omega, rfl, rfl, rfl, Ized.start _ _ _, rfl⟩
  case round =>
    obtain ⟨n, st, hn1, hn2, rfl, rfl, rfl, hz, hsc⟩ := hrel
    by_cases hnC : n ≤ C
    · have hsz : i.ln = 4 ∨ i.ln = 2 := by
        have h := hCC.out
        unfold rowCount at h
        cases h4 : (i.ln == 4)
        · cases h2 : (i.ln == 2)
          · rw [h4, h2] at h; simp at h; omega
          · exact .inr (beq_iff_eq.1 h2)
        · exact .inl (beq_iff_eq.1 h4)
      have hbd := row_small i.ln hsz n (by rw [← hCC.out]; omega)
      have HSZ := hide hsz
      clear hsz
      have hstep := least_step i st n (C - n)
      rw [show C - n + 1 = C + 1 - n by omega] at hstep
      rw [hstep] at hsc
      clear hstep
      have z5 := hz.c5
      go_wp2_with fail
      refine (i_rowAt i.ln n _).mono ?_
      rintro e w1 ⟨rfl, hb1⟩
      obtain ⟨t, ht⟩ : ∃ t, t = rowAt i.ln n := ⟨_, rfl⟩
      rw [← ht] at hbd ⊢
      have HT : Hid (t = rowAt i.ln n) := ht
      clear ht z5
      replace hz := hz.more hb1
      clear hb1
      have z0 := hz.c0
      have z1 := hz.c1
      have z2 := hz.c2
      have z3 := hz.c3
      have z4 := hz.c4
      have z5 := hz.c5
      have hlt := hz.lt
      simp only [rowV]
      by_cases hop : t.1 = i.op
      · have hop' : (t.1 != i.op) = false := by simp [hop]
        have HOP := hide hop
        clear hop
        go_wp2_with fail
        refine (i_draw t.2.1 hbd i.op i.rd i.rs1 i.rs2 i.im i.ln _).mono ?_
        rintro e w2 ⟨rfl, hb2⟩
        have hb2' := hide hb2
        have x0 := (hb2.cell (p := ⟨w1.heap.size, 0, none⟩) (by simp)).trans (by simp : _ = some (.int .i64 t.1))
        have x1 := (hb2.cell (p := ⟨w1.heap.size, 1, none⟩) (by simp)).trans (by simp : _ = some (.string t.2.1))
        have x2 := (hb2.cell (p := ⟨w1.heap.size, 2, none⟩) (by simp)).trans (by simp : _ = some (.int .i64 t.2.2))
        clear z0 z1 z2 z3 z4 z5 hlt
        replace hz := (hz.alloc _).more hb2
        clear hb2 hb2'
        have hW := draw_bd t hbd i
        obtain ⟨W, hw⟩ : ∃ W, W = rowDraw t i := ⟨_, rfl⟩
        have e1 : Pic.draw (Pic.rv t.2.1.data.toList t.2.1.size) i.rd i.rs1 i.rs2 i.im = W := hw.symm
        rw [e1]
        rw [← hw] at hW
        have HW := hide hw
        clear hw e1
        go_wp2_with fail
        refine (i_meaning t hbd W hW _).mono ?_
        rintro e w3 ⟨rfl, hb3⟩
        replace hz := hz.more hb3
        clear hb3 x0 x1 x2
        have z0 := hz.c0
        have z1 := hz.c1
        have z2 := hz.c2
        have z3 := hz.c3
        have z4 := hz.c4
        have z5 := hz.c5
        have hlt := hz.lt
        cases hf : rowFits t W
        · rw [ww_fit HT (by rw [← HW.out]; exact hf)] at hsc
          simp only [insV, ins0]
          go_wp2
          go_roundw
          case rel => exact ⟨n + 1, st, by omega, by omega, by go_num, rfl, rfl, hz.alloc _, by rw [show C + 1 - (n + 1) = C - n by omega]; exact hsc⟩
          case measure => simp [intOf]; omega
        · obtain ⟨j, hj⟩ : ∃ j, j = rowIns t W := ⟨_, rfl⟩
          simp only [if_true]
          rw [← hj]
          have HJ := hide hj
          clear hj
          simp only [insV]
          go_wp2_with fail
          refine (i_same j i _).mono ?_
          rintro e w4 ⟨rfl, hb4⟩
          replace hz := (hz.alloc _).more hb4
          clear hb4 z0 z1 z2 z3 z4 z5 hlt
          cases hs : sameB j i
          · rw [ww_same HT (by rw [← HW.out, ← HJ.out]; exact hs)] at hsc
            go_wp2
            go_roundw
            case rel => exact ⟨n + 1, st, by omega, by omega, by go_num, rfl, rfl, hz, by rw [show C + 1 - (n + 1) = C - n by omega]; exact hsc⟩
            case measure => simp [intOf]; omega
          · rw [ww_yes HT HOP.out (by rw [← HW.out]; exact hf) (by rw [← HW.out, ← HJ.out]; exact hs), ← HW.out] at hsc
            cases st with
            | none =>
              go_wp2
              go_roundw
              case rel => exact ⟨n + 1, some W, by omega, by omega, by go_num, rfl, rfl, hz, by rw [show C + 1 - (n + 1) = C - n by omega]; exact hsc⟩
              case measure => simp [intOf]; omega
            | some a =>
              by_cases hla : W < a
              · simp only [better, if_pos hla] at hsc
                have hla' : decide ((W : Int) < (a : Int)) = true := by simp; omega
                go_wp2
                go_roundw
                case rel => exact ⟨n + 1, some W, by omega, by omega, by go_num, rfl, rfl, hz, by rw [show C + 1 - (n + 1) = C - n by omega]; exact hsc⟩
                case measure => simp [intOf]; omega
              · simp only [better, if_neg hla] at hsc
                have hla' : decide ((W : Int) < (a : Int)) = false := by simp; omega
                go_wp2
                go_roundw
                case rel => exact ⟨n + 1, some a, by omega, by omega, by go_num, rfl, rfl, hz, by rw [show C + 1 - (n + 1) = C - n by omega]; exact hsc⟩
                case measure => simp [intOf]; omega
      · have hop' : (t.1 != i.op) = true := by simp [hop]
        rw [ww_op HT hop] at hsc
        clear hop
        go_wp2
        go_roundw
        case rel => exact ⟨n + 1, st, by omega, by omega, by go_num, rfl, rfl, hz.alloc _, by rw [show C + 1 - (n + 1) = C - n by omega]; exact hsc⟩
        case measure => simp [intOf]; omega
    · have h0 : C + 1 - n = 0 := by omega
      rw [h0] at hsc
      cases st with
      | none =>
        go_wp2
        go_ret2
        exact ⟨⟨none, hsc, rfl⟩, hz.below⟩
      | some a =>
        go_wp2
        go_ret2
        exact ⟨⟨some a, hsc, rfl⟩, hz.below⟩
end Go.Proofs.YthfofjkfbhahoaaGreatDoor
end
