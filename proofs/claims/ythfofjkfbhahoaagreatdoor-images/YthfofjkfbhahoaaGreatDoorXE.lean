import Derived.Test.YthfofjkfbhahoaaGreatDoorXC
import Derived.Test.YthfofjkfbhahoaaGreatDoorXD
import Derived.Deep.RegionWith
import Derived.BigRegion
import Derived.Deep.CutRange
import Derived.Deep.DeepCutAuto
section
namespace Go.Proofs.YthfofjkfbhahoaaGreatDoor
open Go.RowKit
set_option linter.unusedSimpArgs false
theorem bcell {W w1 : World} (hb : Below W.heap.size W w1) : (∀ b o, b < W.heap.size → w1.cell? ⟨b, o, none⟩ = W.cell? ⟨b, o, none⟩) ∧ (∀ b o, b < W.heap.size → w1.frozen? ⟨b, o, none⟩ = W.frozen? ⟨b, o, none⟩) :=
  ⟨fun b o h => hb.cell (p := ⟨b, o, none⟩) h, fun b o h => hb.frozen (p := ⟨b, o, none⟩) h⟩
theorem below3 {w w1 : World} {o : Obj} (hb1 : Below (w.alloc o).heap.size (w.alloc o) w1) (a b c : Addr) (x y z : Value) (ha : w.heap.size ≤ a.block) (hb : w.heap.size ≤ b.block) (hc : w.heap.size ≤ c.block) :
    Below w.heap.size w (((w1.setCell a x).setCell b y).setCell c z) := by
  have h0 : Below w.heap.size w w1 := ((Below.refl _ _).alloc (Nat.le_refl _) _).trans (hb1.mono (by simp))
  exact ((h0.setCell ha _).setCell hb _).setCell hc _
set_option maxHeartbeats 400000 in
theorem i_longRow_upperRow (op : Int) (h2 : op ≤ 2) (w : World) :
    Calls Tryz.prog 151 #[.int .i64 op] w fun e w' => e = .returned (rowV (Tab.upperRow op)) ∧ Below w.heap.size w w' := by
  go_enter Tryz.func151, Tryz.ntmps151
  go_wp2_with fail
  refine (i_upperRow op _).mono ?_
  rintro e w1 ⟨rfl, hb1⟩
  obtain ⟨hc, hf⟩ := bcell hb1
  have hz : w.heap.size < w1.heap.size := by have := hb1.size; simp at this; omega
  simp only [rowV]
  go_wp2
  exact bodyPost_ret (v := rowV (Tab.upperRow op)) (by simp [results, Tryz.results151, go_sem, rowV, hc, hz]) rfl ⟨rfl, below3 hb1 _ _ _ _ _ _ (by simp) (by simp) (by simp)⟩
set_option maxHeartbeats 400000 in
theorem i_longRow_jumpRow (op : Int) (h1 : 3 ≤ op) (h2 : op ≤ 10) (w : World) :
    Calls Tryz.prog 151 #[.int .i64 op] w fun e w' => e = .returned (rowV (Tab.jumpRow op)) ∧ Below w.heap.size w w' := by
  go_enter Tryz.func151, Tryz.ntmps151
  go_wp2_with fail
  refine (i_jumpRow op _).mono ?_
  rintro e w1 ⟨rfl, hb1⟩
  obtain ⟨hc, hf⟩ := bcell hb1
  have hz : w.heap.size < w1.heap.size := by have := hb1.size; simp at this; omega
  simp only [rowV]
  go_wp2
  exact bodyPost_ret (v := rowV (Tab.jumpRow op)) (by simp [results, Tryz.results151, go_sem, rowV, hc, hz]) rfl ⟨rfl, below3 hb1 _ _ _ _ _ _ (by simp) (by simp) (by simp)⟩
set_option maxHeartbeats 400000 in
theorem i_longRow_memoryRow (op : Int) (h1 : 11 ≤ op) (h2 : op ≤ 18) (w : World) :
    Calls Tryz.prog 151 #[.int .i64 op] w fun e w' => e = .returned (rowV (Tab.memoryRow op)) ∧ Below w.heap.size w w' := by
  go_enter Tryz.func151, Tryz.ntmps151
  go_wp2_with fail
  refine (i_memoryRow op _).mono ?_
  rintro e w1 ⟨rfl, hb1⟩
  obtain ⟨hc, hf⟩ := bcell hb1
  have hz : w.heap.size < w1.heap.size := by have := hb1.size; simp at this; omega
  simp only [rowV]
  go_wp2
  exact bodyPost_ret (v := rowV (Tab.memoryRow op)) (by simp [results, Tryz.results151, go_sem, rowV, hc, hz]) rfl ⟨rfl, below3 hb1 _ _ _ _ _ _ (by simp) (by simp) (by simp)⟩
set_option maxHeartbeats 400000 in
theorem i_longRow_immediateRow (op : Int) (h1 : 19 ≤ op) (h2 : op ≤ 27) (w : World) :
    Calls Tryz.prog 151 #[.int .i64 op] w fun e w' => e = .returned (rowV (Tab.immediateRow op)) ∧ Below w.heap.size w w' := by
  go_enter Tryz.func151, Tryz.ntmps151
  go_wp2_with fail
  refine (i_immediateRow op _).mono ?_
  rintro e w1 ⟨rfl, hb1⟩
  obtain ⟨hc, hf⟩ := bcell hb1
  have hz : w.heap.size < w1.heap.size := by have := hb1.size; simp at this; omega
  simp only [rowV]
  go_wp2
  exact bodyPost_ret (v := rowV (Tab.immediateRow op)) (by simp [results, Tryz.results151, go_sem, rowV, hc, hz]) rfl ⟨rfl, below3 hb1 _ _ _ _ _ _ (by simp) (by simp) (by simp)⟩
set_option maxHeartbeats 400000 in
theorem i_longRow_registerRow (op : Int) (h1 : 28 ≤ op) (h2 : op ≤ 37) (w : World) :
    Calls Tryz.prog 151 #[.int .i64 op] w fun e w' => e = .returned (rowV (Tab.registerRow op)) ∧ Below w.heap.size w w' := by
  go_enter Tryz.func151, Tryz.ntmps151
  go_wp2_with fail
  refine (i_registerRow op _).mono ?_
  rintro e w1 ⟨rfl, hb1⟩
  obtain ⟨hc, hf⟩ := bcell hb1
  have hz : w.heap.size < w1.heap.size := by have := hb1.size; simp at this; omega
  simp only [rowV]
  go_wp2
  exact bodyPost_ret (v := rowV (Tab.registerRow op)) (by simp [results, Tryz.results151, go_sem, rowV, hc, hz]) rfl ⟨rfl, below3 hb1 _ _ _ _ _ _ (by simp) (by simp) (by simp)⟩
set_option maxHeartbeats 400000 in
theorem i_longRow_fenceRow (op : Int) (h1 : 38 ≤ op) (h2 : op ≤ 41) (w : World) :
    Calls Tryz.prog 151 #[.int .i64 op] w fun e w' => e = .returned (rowV (Tab.fenceRow op)) ∧ Below w.heap.size w w' := by
  go_enter Tryz.func151, Tryz.ntmps151
  go_wp2_with fail
  refine (i_fenceRow op _).mono ?_
  rintro e w1 ⟨rfl, hb1⟩
  obtain ⟨hc, hf⟩ := bcell hb1
  have hz : w.heap.size < w1.heap.size := by have := hb1.size; simp at this; omega
  simp only [rowV]
  go_wp2
  exact bodyPost_ret (v := rowV (Tab.fenceRow op)) (by simp [results, Tryz.results151, go_sem, rowV, hc, hz]) rfl ⟨rfl, below3 hb1 _ _ _ _ _ _ (by simp) (by simp) (by simp)⟩
set_option maxHeartbeats 400000 in
theorem i_longRow_productRow (op : Int) (h1 : 42 ≤ op) (h2 : op ≤ 49) (w : World) :
    Calls Tryz.prog 151 #[.int .i64 op] w fun e w' => e = .returned (rowV (Tab.productRow op)) ∧ Below w.heap.size w w' := by
  go_enter Tryz.func151, Tryz.ntmps151
  go_wp2_with fail
  refine (i_productRow op _).mono ?_
  rintro e w1 ⟨rfl, hb1⟩
  obtain ⟨hc, hf⟩ := bcell hb1
  have hz : w.heap.size < w1.heap.size := by have := hb1.size; simp at this; omega
  simp only [rowV]
  go_wp2
  exact bodyPost_ret (v := rowV (Tab.productRow op)) (by simp [results, Tryz.results151, go_sem, rowV, hc, hz]) rfl ⟨rfl, below3 hb1 _ _ _ _ _ _ (by simp) (by simp) (by simp)⟩
set_option maxHeartbeats 400000 in
theorem i_longRow_atomicRow (op : Int) (h1 : 50 ≤ op) (h2 : op ≤ 60) (w : World) :
    Calls Tryz.prog 151 #[.int .i64 op] w fun e w' => e = .returned (rowV (Tab.atomicRow op)) ∧ Below w.heap.size w w' := by
  go_enter Tryz.func151, Tryz.ntmps151
  go_wp2_with fail
  refine (i_atomicRow op _).mono ?_
  rintro e w1 ⟨rfl, hb1⟩
  obtain ⟨hc, hf⟩ := bcell hb1
  have hz : w.heap.size < w1.heap.size := by have := hb1.size; simp at this; omega
  simp only [rowV]
  go_wp2
  exact bodyPost_ret (v := rowV (Tab.atomicRow op)) (by simp [results, Tryz.results151, go_sem, rowV, hc, hz]) rfl ⟨rfl, below3 hb1 _ _ _ _ _ _ (by simp) (by simp) (by simp)⟩
set_option maxHeartbeats 400000 in
theorem i_longRow_systemRow (op : Int) (h1 : 61 ≤ op) (w : World) :
    Calls Tryz.prog 151 #[.int .i64 op] w fun e w' => e = .returned (rowV (Tab.systemRow op)) ∧ Below w.heap.size w w' := by
  go_enter Tryz.func151, Tryz.ntmps151
  go_wp2_with fail
  refine (i_systemRow op _).mono ?_
  rintro e w1 ⟨rfl, hb1⟩
  obtain ⟨hc, hf⟩ := bcell hb1
  have hz : w.heap.size < w1.heap.size := by have := hb1.size; simp at this; omega
  simp only [rowV]
  go_wp2
  exact bodyPost_ret (v := rowV (Tab.systemRow op)) (by simp [results, Tryz.results151, go_sem, rowV, hc, hz]) rfl ⟨rfl, below3 hb1 _ _ _ _ _ _ (by simp) (by simp) (by simp)⟩
theorem i_longRow (op : Int) (w : World) :
    Calls Tryz.prog 151 #[.int .i64 op] w fun e w' => e = .returned (rowV (Tab.longRow op)) ∧ Below w.heap.size w w' := by
  unfold Tab.longRow
  by_cases c0 : op ≤ 2
  · rw [decide_eq_true c0, cond_true]; exact i_longRow_upperRow op c0 w
  by_cases c1 : op ≤ 10
  · rw [decide_eq_false c0, cond_false, decide_eq_true c1, cond_true]; exact i_longRow_jumpRow op (by omega) c1 w
  by_cases c2 : op ≤ 18
  · rw [decide_eq_false c0, cond_false, decide_eq_false c1, cond_false, decide_eq_true c2, cond_true]; exact i_longRow_memoryRow op (by omega) c2 w
  by_cases c3 : op ≤ 27
  · rw [decide_eq_false c0, cond_false, decide_eq_false c1, cond_false, decide_eq_false c2, cond_false, decide_eq_true c3, cond_true]; exact i_longRow_immediateRow op (by omega) c3 w
  by_cases c4 : op ≤ 37
  · rw [decide_eq_false c0, cond_false, decide_eq_false c1, cond_false, decide_eq_false c2, cond_false, decide_eq_false c3, cond_false, decide_eq_true c4, cond_true]; exact i_longRow_registerRow op (by omega) c4 w
  by_cases c5 : op ≤ 41
  · rw [decide_eq_false c0, cond_false, decide_eq_false c1, cond_false, decide_eq_false c2, cond_false, decide_eq_false c3, cond_false, decide_eq_false c4, cond_false, decide_eq_true c5, cond_true]; exact i_longRow_fenceRow op (by omega) c5 w
  by_cases c6 : op ≤ 49
  · rw [decide_eq_false c0, cond_false, decide_eq_false c1, cond_false, decide_eq_false c2, cond_false, decide_eq_false c3, cond_false, decide_eq_false c4, cond_false, decide_eq_false c5, cond_false, decide_eq_true c6, cond_true]; exact i_longRow_productRow op (by omega) c6 w
  by_cases c7 : op ≤ 60
  · rw [decide_eq_false c0, cond_false, decide_eq_false c1, cond_false, decide_eq_false c2, cond_false, decide_eq_false c3, cond_false, decide_eq_false c4, cond_false, decide_eq_false c5, cond_false, decide_eq_false c6, cond_false, decide_eq_true c7, cond_true]; exact i_longRow_atomicRow op (by omega) c7 w
  rw [decide_eq_false c0, cond_false, decide_eq_false c1, cond_false, decide_eq_false c2, cond_false, decide_eq_false c3, cond_false, decide_eq_false c4, cond_false, decide_eq_false c5, cond_false, decide_eq_false c6, cond_false, decide_eq_false c7, cond_false]
  exact i_longRow_systemRow op (by omega) w
set_option maxHeartbeats 400000 in
theorem i_shortRow_shortRow00 (op : Int) (h2 : op ≤ 3) (w : World) :
    Calls Tryz.prog 152 #[.int .i64 op] w fun e w' => e = .returned (rowV (Tab.shortRow00 op)) ∧ Below w.heap.size w w' := by
  go_enter Tryz.func152, Tryz.ntmps152
  go_wp2_with fail
  refine (i_shortRow00 op _).mono ?_
  rintro e w1 ⟨rfl, hb1⟩
  obtain ⟨hc, hf⟩ := bcell hb1
  have hz : w.heap.size < w1.heap.size := by have := hb1.size; simp at this; omega
  simp only [rowV]
  go_wp2
  exact bodyPost_ret (v := rowV (Tab.shortRow00 op)) (by simp [results, Tryz.results152, go_sem, rowV, hc, hz]) rfl ⟨rfl, below3 hb1 _ _ _ _ _ _ (by simp) (by simp) (by simp)⟩
set_option maxHeartbeats 400000 in
theorem i_shortRow_shortRow01 (op : Int) (h1 : 4 ≤ op) (h2 : op ≤ 18) (w : World) :
    Calls Tryz.prog 152 #[.int .i64 op] w fun e w' => e = .returned (rowV (Tab.shortRow01 op)) ∧ Below w.heap.size w w' := by
  go_enter Tryz.func152, Tryz.ntmps152
  go_wp2_with fail
  refine (i_shortRow01 op _).mono ?_
  rintro e w1 ⟨rfl, hb1⟩
  obtain ⟨hc, hf⟩ := bcell hb1
  have hz : w.heap.size < w1.heap.size := by have := hb1.size; simp at this; omega
  simp only [rowV]
  go_wp2
  exact bodyPost_ret (v := rowV (Tab.shortRow01 op)) (by simp [results, Tryz.results152, go_sem, rowV, hc, hz]) rfl ⟨rfl, below3 hb1 _ _ _ _ _ _ (by simp) (by simp) (by simp)⟩
set_option maxHeartbeats 400000 in
theorem i_shortRow_shortRow10 (op : Int) (h1 : 19 ≤ op) (w : World) :
    Calls Tryz.prog 152 #[.int .i64 op] w fun e w' => e = .returned (rowV (Tab.shortRow10 op)) ∧ Below w.heap.size w w' := by
  go_enter Tryz.func152, Tryz.ntmps152
  go_wp2_with fail
  refine (i_shortRow10 op _).mono ?_
  rintro e w1 ⟨rfl, hb1⟩
  obtain ⟨hc, hf⟩ := bcell hb1
  have hz : w.heap.size < w1.heap.size := by have := hb1.size; simp at this; omega
  simp only [rowV]
  go_wp2
  exact bodyPost_ret (v := rowV (Tab.shortRow10 op)) (by simp [results, Tryz.results152, go_sem, rowV, hc, hz]) rfl ⟨rfl, below3 hb1 _ _ _ _ _ _ (by simp) (by simp) (by simp)⟩
theorem i_shortRow (op : Int) (w : World) :
    Calls Tryz.prog 152 #[.int .i64 op] w fun e w' => e = .returned (rowV (Tab.shortRow op)) ∧ Below w.heap.size w w' := by
  unfold Tab.shortRow
  by_cases c0 : op ≤ 3
  · rw [decide_eq_true c0, cond_true]; exact i_shortRow_shortRow00 op c0 w
  by_cases c1 : op ≤ 18
  · rw [decide_eq_false c0, cond_false, decide_eq_true c1, cond_true]; exact i_shortRow_shortRow01 op (by omega) c1 w
  rw [decide_eq_false c0, cond_false, decide_eq_false c1, cond_false]
  exact i_shortRow_shortRow10 op (by omega) w
def rowAt (size n : Int) : Int × ByteArray × Int := bif size == 4 then Tab.longRow n else Tab.shortRow n
set_option maxHeartbeats 400000 in
theorem i_rowAt (size op : Int) (w : World) :
    Calls Tryz.prog 106 #[.int .i64 size, .int .i64 op] w fun e w' => e = .returned (rowV (rowAt size op)) ∧ Below w.heap.size w w' := by
  unfold rowAt
  cases h : (size == 4)
  · go_enter Tryz.func106, Tryz.ntmps106
    go_wp2_with fail
    refine (i_shortRow op _).mono ?_
    rintro e w1 ⟨rfl, hb1⟩
    obtain ⟨hc, hf⟩ := bcell hb1
    have hz : w.heap.size < w1.heap.size := by have := hb1.size; simp at this; omega
    simp only [rowV]
    go_wp2
    exact bodyPost_ret (v := rowV (Tab.shortRow op)) (by simp [results, Tryz.results106, go_sem, rowV, hc, hz]) rfl ⟨by simp [h], below3 hb1 _ _ _ _ _ _ (by simp) (by simp) (by simp)⟩
  · go_enter Tryz.func106, Tryz.ntmps106
    go_wp2_with fail
    refine (i_longRow op _).mono ?_
    rintro e w1 ⟨rfl, hb1⟩
    obtain ⟨hc, hf⟩ := bcell hb1
    have hz : w.heap.size < w1.heap.size := by have := hb1.size; simp at this; omega
    simp only [rowV]
    go_wp2
    exact bodyPost_ret (v := rowV (Tab.longRow op)) (by simp [results, Tryz.results106, go_sem, rowV, hc, hz]) rfl ⟨by simp [h], below3 hb1 _ _ _ _ _ _ (by simp) (by simp) (by simp)⟩
def hasB (r k : Int) : Bool := bits .and .i64 r k != 0
set_option maxHeartbeats 400000 in
theorem i_has (a : Int) (s : ByteArray) (r k : Int) (w : World) :
    Calls Tryz.prog 215 #[.agg #[.int .i64 a, .string s, .int .i64 r], .int .i64 k] w fun e w' => e = .returned (.bool (hasB r k)) ∧ w.alloc (.cells #[.int .i64 a, .string s, .int .i64 r] 123) = w' := by
  go_enter Tryz.func215, Tryz.ntmps215
  go_wp2
  go_ret
  exact ⟨rfl, rfl⟩
def toldRd (r : Int) : Int := bif hasB r 2 then 1 else bif hasB r 4 then 2 else 0
def toldRs1 (r : Int) : Int := bif hasB r 8 then 2 else 0
set_option maxHeartbeats 400000 in
theorem i_toldRd (a : Int) (s : ByteArray) (r : Int) (w : World) :
    Calls Tryz.prog 212 #[.agg #[.int .i64 a, .string s, .int .i64 r]] w fun e w' => e = .returned (.int .i64 (toldRd r)) ∧ Below w.heap.size w w' := by
  unfold toldRd
  go_enter Tryz.func212, Tryz.ntmps212
  go_wp2_with fail
  refine (i_has a s r 2 _).mono ?_
  rintro e w1 ⟨rfl, rfl⟩
  cases h2 : hasB r 2
  · go_wp2_with fail
    refine (i_has a s r 4 _).mono ?_
    rintro e w1 ⟨rfl, rfl⟩
    cases h4 : hasB r 4
    · go_wp2
      go_ret
      exact ⟨by rw [h2, h4]; rfl, (((Below.refl _ _).alloc (Nat.le_refl _) _).alloc (by simp) _).alloc (by simp; omega) _⟩
    · go_wp2
      go_ret
      exact ⟨by rw [h2, h4]; rfl, (((Below.refl _ _).alloc (Nat.le_refl _) _).alloc (by simp) _).alloc (by simp; omega) _⟩
  · go_wp2
    go_ret
    exact ⟨by rw [h2]; rfl, ((Below.refl _ _).alloc (Nat.le_refl _) _).alloc (by simp) _⟩
set_option maxHeartbeats 400000 in
theorem i_toldRs1 (a : Int) (s : ByteArray) (r : Int) (w : World) :
    Calls Tryz.prog 213 #[.agg #[.int .i64 a, .string s, .int .i64 r]] w fun e w' => e = .returned (.int .i64 (toldRs1 r)) ∧ Below w.heap.size w w' := by
  unfold toldRs1
  go_enter Tryz.func213, Tryz.ntmps213
  go_wp2_with fail
  refine (i_has a s r 8 _).mono ?_
  rintro e w1 ⟨rfl, rfl⟩
  cases h2 : hasB r 8
  · go_wp2
    go_ret
    exact ⟨by rw [h2]; rfl, ((Below.refl _ _).alloc (Nat.le_refl _) _).alloc (by simp) _⟩
  · go_wp2
    go_ret
    exact ⟨by rw [h2]; rfl, ((Below.refl _ _).alloc (Nat.le_refl _) _).alloc (by simp) _⟩
end Go.Proofs.YthfofjkfbhahoaaGreatDoor
end
section
namespace Go.Proofs.YthfofjkfbhahoaaGreatDoor
open Go.RowKit
set_option linter.unusedSimpArgs false
theorem reg_bd (s : ByteArray) (hs : s.size ≤ 32) (c : UInt8) (W : Nat) : regOf s c W ≤ 4294967304 := by
  have hlen : (Pic.rv s.data.toList s.size).length ≤ 32 := by rw [Pic.rv_length _ _ (by simp)]; exact hs
  have a := Pic.val_lt (· == c) (Pic.rv s.data.toList s.size) W
  have b := Pic.cnt_le (· == c) (Pic.rv s.data.toList s.size)
  have c2 : 2 ^ Pic.cnt (· == c) (Pic.rv s.data.toList s.size) ≤ 2 ^ 32 := Nat.pow_le_pow_right (by decide) (by omega)
  have d : (2 : Nat) ^ 32 = 4294967296 := by decide
  unfold regOf
  simp only
  split <;> omega
theorem told_bd (r : Int) : 0 ≤ toldRd r ∧ toldRd r ≤ 2 ∧ 0 ≤ toldRs1 r ∧ toldRs1 r ≤ 2 := by
  unfold toldRd toldRs1
  cases hasB r 2 <;> cases hasB r 4 <;> cases hasB r 8 <;> simp
set_option maxHeartbeats 4000000 in
theorem i_read (a : Int) (s : ByteArray) (hs : s.size ≤ 32) (r : Int) (W : Nat) (hW : W < 4294967296) (w : World) :
    Calls Tryz.prog 154 #[.agg #[.int .i64 a, .string s, .int .i64 r], .int .i64 W] w fun e w' =>
      e = .returned (.agg #[.int .i64 a, .int .i64 ((regOf s 68 W : Int) + regOf s 66 W + toldRd r), .int .i64 ((regOf s 83 W : Int) + regOf s 66 W + toldRs1 r), .int .i64 (regOf s 84 W), .int .i64 (immOf s (hasB r 1) W), .int .i64 ((s.size : Int) / 8)]) ∧ Below w.heap.size w w' := by
  have b1 := reg_bd s hs 68 W
  have b2 := reg_bd s hs 66 W
  have b3 := reg_bd s hs 83 W
  have b4 := reg_bd s hs 84 W
  obtain ⟨t1, t2, t3, t4⟩ := told_bd r
  go_enter Tryz.func154, Tryz.ntmps154
  go_wp2_with fail
  refine (i_register s hs 66 W hW _).mono ?_
  rintro e w1 ⟨rfl, rfl⟩
  go_wp2_with fail
  refine (i_register s hs 68 W hW _).mono ?_
  rintro e w1 ⟨rfl, rfl⟩
  go_wp2_with fail
  refine (i_register s hs 83 W hW _).mono ?_
  rintro e w1 ⟨rfl, rfl⟩
  go_wp2_with fail
  refine (i_register s hs 84 W hW _).mono ?_
  rintro e w1 ⟨rfl, rfl⟩
  go_wp2_with fail
  refine (i_toldRd a s r _).mono ?_
  rintro e w1 ⟨rfl, hb1⟩
  obtain ⟨hc, hf⟩ := bcell hb1
  have hz : w.heap.size + 1 < w1.heap.size := by have := hb1.size; simp at this; omega
  go_wp2_with fail
  refine (i_toldRs1 a s r _).mono ?_
  rintro e w2 ⟨rfl, hb2⟩
  obtain ⟨hc2, hf2⟩ := bcell hb2
  have hz2 : w.heap.size + 1 < w2.heap.size := by have := hb2.size; omega
  have hz3 : w.heap.size < w2.heap.size := by omega
  have q0 : w2.cell? ⟨w.heap.size, 0, none⟩ = some (.int .i64 a) := by rw [hc2 _ _ (by omega), hc _ _ (by simp; omega)]; simp
  have q1 : w2.cell? ⟨w.heap.size, 1, none⟩ = some (.string s) := by rw [hc2 _ _ (by omega), hc _ _ (by simp; omega)]; simp
  have q2 : w2.cell? ⟨w.heap.size, 2, none⟩ = some (.int .i64 r) := by rw [hc2 _ _ (by omega), hc _ _ (by simp; omega)]; simp
  have z0 : w2.cell? ⟨w.heap.size + 1, 0, none⟩ = some (.int .i64 0) := by rw [hc2 _ _ (by omega), hc _ _ (by simp)]; simp
  have z1 : w2.cell? ⟨w.heap.size + 1, 1, none⟩ = some (.int .i64 0) := by rw [hc2 _ _ (by omega), hc _ _ (by simp)]; simp
  have z2 : w2.cell? ⟨w.heap.size + 1, 2, none⟩ = some (.int .i64 0) := by rw [hc2 _ _ (by omega), hc _ _ (by simp)]; simp
  have z3 : w2.cell? ⟨w.heap.size + 1, 3, none⟩ = some (.int .i64 0) := by rw [hc2 _ _ (by omega), hc _ _ (by simp)]; simp
  have z4 : w2.cell? ⟨w.heap.size + 1, 4, none⟩ = some (.int .i64 0) := by rw [hc2 _ _ (by omega), hc _ _ (by simp)]; simp
  have z5 : w2.cell? ⟨w.heap.size + 1, 5, none⟩ = some (.int .i64 0) := by rw [hc2 _ _ (by omega), hc _ _ (by simp)]; simp
  have g0 : ∀ o, w2.frozen? ⟨w.heap.size + 1, o, none⟩ = false := by intro o; rw [hf2 _ _ (by omega), hf _ _ (by simp)]; simp
  have bb : Below w.heap.size w w2 := (((Below.refl _ _).alloc (Nat.le_refl _) _).alloc (by simp) _).trans (hb1.mono (by simp; omega)) |>.trans (hb2.mono (by omega))
  have BB : Hid (Below w.heap.size w w2) := bb
  clear hc hc2 hf hf2 bb hb1 hb2
  go_wp2_with fail
  go_region_with (first | (go_at_call 215; refine (i_has a s r 1 _).mono ?_; rintro e w3 ⟨rfl, rfl⟩) | (go_at_call 214; refine (i_immediate s hs _ W hW _).mono ?_; rintro e w3 ⟨rfl, rfl⟩))
  all_goals go_wp2
  all_goals refine bodyPost_ret (v := .agg #[.int .i64 a, .int .i64 ((regOf s 68 W : Int) + regOf s 66 W + toldRd r), .int .i64 ((regOf s 83 W : Int) + regOf s 66 W + toldRs1 r), .int .i64 (regOf s 84 W), .int .i64 (immOf s (hasB r 1) W), .int .i64 ((s.size : Int) / 8)]) (by simp [results, Tryz.results154, go_sem, z0, z1, z2, z3, z4, z5, hz2]) rfl ⟨rfl, ?_⟩
  all_goals repeat (first | with_reducible exact BB.out | with_reducible refine Below.drew ?_ | with_reducible refine Below.setCell ?_ (by simp) _ | with_reducible refine Below.alloc ?_ (by simp; omega) _)
end Go.Proofs.YthfofjkfbhahoaaGreatDoor
end
section
namespace Go.Proofs.YthfofjkfbhahoaaGreatDoor
open Go.RowKit
set_option linter.unusedSimpArgs false
def rulesOut (r rd rs1 rs2 im : Int) : Bool :=
  (im == 0 && hasB r 16) || (rd == 0 && hasB r 32) || (rs1 == 0 && hasB r 64) || (rs2 == 0 && hasB r 128) || (rd == 2 && hasB r 256)
/-- a row and an instruction lie in the two blocks behind w -/
structure RO (a : Int) (s : ByteArray) (r rd rs1 rs2 : Int) (w wc : World) : Prop where
  below : Below w.heap.size w wc
  size : w.heap.size + 1 < wc.heap.size
  c0 : wc.cell? ⟨w.heap.size, 0, none⟩ = some (.int .i64 a)
  c1 : wc.cell? ⟨w.heap.size, 1, none⟩ = some (.string s)
  c2 : wc.cell? ⟨w.heap.size, 2, none⟩ = some (.int .i64 r)
  d1 : wc.cell? ⟨w.heap.size + 1, 1, none⟩ = some (.int .i64 rd)
  d2 : wc.cell? ⟨w.heap.size + 1, 2, none⟩ = some (.int .i64 rs1)
  d3 : wc.cell? ⟨w.heap.size + 1, 3, none⟩ = some (.int .i64 rs2)
theorem RO.start (a : Int) (s : ByteArray) (r op rd rs1 rs2 im ln : Int) (w : World) (t u : TypeId) :
    RO a s r rd rs1 rs2 w ((w.alloc (.cells #[.int .i64 a, .string s, .int .i64 r] t)).alloc (.cells #[.int .i64 op, .int .i64 rd, .int .i64 rs1, .int .i64 rs2, .int .i64 im, .int .i64 ln] u)) :=
  ⟨((Below.refl _ _).alloc (Nat.le_refl _) _).alloc (by simp) _, by simp, by simp, by simp, by simp, by simp, by simp, by simp⟩
theorem RO.more {a : Int} {s : ByteArray} {r rd rs1 rs2 : Int} {w wc : World} (h : RO a s r rd rs1 rs2 w wc) (o : Obj) : RO a s r rd rs1 rs2 w (wc.alloc o) := by
  have z := h.size
  have e : ∀ b o', b < wc.heap.size → (wc.alloc o).cell? ⟨b, o', none⟩ = wc.cell? ⟨b, o', none⟩ := fun b o' hb =>
    (((Below.refl wc.heap.size wc).alloc (Nat.le_refl _) o).cell (p := ⟨b, o', none⟩) hb)
  exact ⟨h.below.alloc (by omega) _, by simp; omega, (e _ _ (by omega)).trans h.c0, (e _ _ (by omega)).trans h.c1, (e _ _ (by omega)).trans h.c2, (e _ _ (by omega)).trans h.d1, (e _ _ (by omega)).trans h.d2, (e _ _ (by omega)).trans h.d3⟩
set_option maxHeartbeats 4000000 in
theorem i_rulesOut (a : Int) (s : ByteArray) (r op rd rs1 rs2 im ln : Int) (w : World) :
    Calls Tryz.prog 155 #[.agg #[.int .i64 a, .string s, .int .i64 r], .agg #[.int .i64 op, .int .i64 rd, .int .i64 rs1, .int .i64 rs2, .int .i64 im, .int .i64 ln]] w fun e w' =>
      e = .returned (.bool (rulesOut r rd rs1 rs2 im)) ∧ Below w.heap.size w w' := by
  unfold rulesOut
  go_enter Tryz.func155, Tryz.ntmps155
  go_upto_region 1 with fail
  go_cut [5] (fun b wc => b = .bool (im == 0 && hasB r 16) ∧ RO a s r rd rs1 rs2 w wc)
  case first =>
    cases h0 : (im == 0)
    · go_wp2
      go_meet
      case rel => exact ⟨by rw [h0, Bool.false_and], RO.start _ _ _ _ _ _ _ _ _ _ _ _⟩
    · go_wp2_with (go_at_call 215; refine (i_has a s r _ _).mono ?_; rintro e w3 ⟨rfl, rfl⟩)
      go_meet
      case rel => exact ⟨by rw [h0, Bool.true_and], (RO.start _ _ _ _ _ _ _ _ _ _ _ _).more _⟩
  case rest =>
    obtain ⟨rfl, hro⟩ := hcut
    cases hb0 : (im == 0 && hasB r 16)
    case true =>
      go_wp2
      go_ret
      exact ⟨by simp [hb0], hro.below⟩
    case false =>
      obtain ⟨wo, rfl⟩ : ∃ wo : World, wo = wc := ⟨_, rfl⟩
      have z0 := hro.c0
      have z1 := hro.c1
      have z2 := hro.c2
      have z3 := hro.d1
      have z4 := hro.d2
      have z5 := hro.d3
      have z6 : w.heap.size < wo.heap.size := by have := hro.size; omega
      have z7 := hro.size
      go_upto_region 3 with fail
      go_cut [13] (fun b wc => b = .bool (rd == 0 && hasB r 32) ∧ RO a s r rd rs1 rs2 w wc)
      case first =>
        cases h1 : (rd == 0)
        · go_wp2
          go_meet
          case rel => exact ⟨by rw [h1, Bool.false_and], hro⟩
        · go_wp2_with (go_at_call 215; refine (i_has a s r _ _).mono ?_; rintro e w3 ⟨rfl, rfl⟩)
          go_meet
          case rel => exact ⟨by rw [h1, Bool.true_and], (hro).more _⟩
      case rest =>
        clear z0 z1 z2 z3 z4 z5 z6 z7 hro; obtain ⟨rfl, hro⟩ := hcut
        cases hb1 : (rd == 0 && hasB r 32)
        case true =>
          go_wp2
          go_ret
          exact ⟨by simp [hb0, hb1], hro.below⟩
        case false =>
          obtain ⟨wo, rfl⟩ : ∃ wo : World, wo = wc := ⟨_, rfl⟩
          have z0 := hro.c0
          have z1 := hro.c1
          have z2 := hro.c2
          have z3 := hro.d1
          have z4 := hro.d2
          have z5 := hro.d3
          have z6 : w.heap.size < wo.heap.size := by have := hro.size; omega
          have z7 := hro.size
          go_upto_region 5 with fail
          go_cut [21] (fun b wc => b = .bool (rs1 == 0 && hasB r 64) ∧ RO a s r rd rs1 rs2 w wc)
          case first =>
            cases h2 : (rs1 == 0)
            · go_wp2
              go_meet
              case rel => exact ⟨by rw [h2, Bool.false_and], hro⟩
            · go_wp2_with (go_at_call 215; refine (i_has a s r _ _).mono ?_; rintro e w3 ⟨rfl, rfl⟩)
              go_meet
              case rel => exact ⟨by rw [h2, Bool.true_and], (hro).more _⟩
          case rest =>
            clear z0 z1 z2 z3 z4 z5 z6 z7 hro; obtain ⟨rfl, hro⟩ := hcut
            cases hb2 : (rs1 == 0 && hasB r 64)
            case true =>
              go_wp2
              go_ret
              exact ⟨by simp [hb0, hb1, hb2], hro.below⟩
            case false =>
              obtain ⟨wo, rfl⟩ : ∃ wo : World, wo = wc := ⟨_, rfl⟩
              have z0 := hro.c0
              have z1 := hro.c1
              have z2 := hro.c2
              have z3 := hro.d1
              have z4 := hro.d2
              have z5 := hro.d3
              have z6 : w.heap.size < wo.heap.size := by have := hro.size; omega
              have z7 := hro.size
              go_upto_region 7 with fail
              go_cut [29] (fun b wc => b = .bool (rs2 == 0 && hasB r 128) ∧ RO a s r rd rs1 rs2 w wc)
              case first =>
                cases h3 : (rs2 == 0)
                · go_wp2
                  go_meet
                  case rel => exact ⟨by rw [h3, Bool.false_and], hro⟩
                · go_wp2_with (go_at_call 215; refine (i_has a s r _ _).mono ?_; rintro e w3 ⟨rfl, rfl⟩)
                  go_meet
                  case rel => exact ⟨by rw [h3, Bool.true_and], (hro).more _⟩
              case rest =>
                clear z0 z1 z2 z3 z4 z5 z6 z7 hro; obtain ⟨rfl, hro⟩ := hcut
                cases hb3 : (rs2 == 0 && hasB r 128)
                case true =>
                  go_wp2
                  go_ret
                  exact ⟨by simp [hb0, hb1, hb2, hb3], hro.below⟩
                case false =>
                  obtain ⟨wo, rfl⟩ : ∃ wo : World, wo = wc := ⟨_, rfl⟩
                  have z0 := hro.c0
                  have z1 := hro.c1
                  have z2 := hro.c2
                  have z3 := hro.d1
                  have z4 := hro.d2
                  have z5 := hro.d3
                  have z6 : w.heap.size < wo.heap.size := by have := hro.size; omega
                  have z7 := hro.size
                  go_upto_region 9 with fail
                  go_cut [37] (fun b wc => b = .bool (rd == 2 && hasB r 256) ∧ RO a s r rd rs1 rs2 w wc)
                  case first =>
                    cases h4 : (rd == 2)
                    · go_wp2
                      go_meet
                      case rel => exact ⟨by rw [h4, Bool.false_and], hro⟩
                    · go_wp2_with (go_at_call 215; refine (i_has a s r _ _).mono ?_; rintro e w3 ⟨rfl, rfl⟩)
                      go_meet
                      case rel => exact ⟨by rw [h4, Bool.true_and], (hro).more _⟩
                  case rest =>
                    clear z0 z1 z2 z3 z4 z5 z6 z7 hro; obtain ⟨rfl, hro⟩ := hcut
                    cases hb4 : (rd == 2 && hasB r 256)
                    case true =>
                      go_wp2
                      go_ret
                      exact ⟨by simp [hb0, hb1, hb2, hb3, hb4], hro.below⟩
                    case false =>
                      go_wp2
                      go_ret
                      exact ⟨by simp [hb0, hb1, hb2, hb3, hb4], hro.below⟩
end Go.Proofs.YthfofjkfbhahoaaGreatDoor
end
