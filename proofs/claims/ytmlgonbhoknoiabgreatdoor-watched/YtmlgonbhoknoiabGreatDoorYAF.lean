import Derived.Test.YtmlgonbhoknoiabGreatDoorYAE
set_option maxHeartbeats 8000000
set_option linter.all false
namespace Go.Proofs.YtmlgonbhoknoiabGreatDoor
open Go.RowKit Go.Proofs.Tryz
theorem bcell {W w1 : World} (hb : Below W.heap.size W w1) : (∀ b o, b < W.heap.size -> w1.cell? ⟨b, o, none⟩ = W.cell? ⟨b, o, none⟩) /\ (∀ b o, b < W.heap.size -> w1.frozen? ⟨b, o, none⟩ = W.frozen? ⟨b, o, none⟩) :=
 ⟨fun b o h => hb.cell (p := ⟨b, o, none⟩) h, fun b o h => hb.frozen (p := ⟨b, o, none⟩) h⟩
theorem below3 {w w1 : World} {o : Obj} (hb1 : Below (w.alloc o).heap.size (w.alloc o) w1) (a b c : Addr) (x y z : Value) (ha : w.heap.size <= a.block) (hb : w.heap.size <= b.block) (hc : w.heap.size <= c.block) :
 Below w.heap.size w (((w1.setCell a x).setCell b y).setCell c z) := by
 have h0 : Below w.heap.size w w1 := ((Below.refl _ _).alloc (Nat.le_refl _) _).trans (hb1.mono (by simp))
 exact ((h0.setCell ha _).setCell hb _).setCell hc _
theorem i_longRow_upperRow (op : Int) (h2 : op <= 2) (w : World) :
 CB 206 #[.int .i64 op] (rowV (Tab.upperRow op)) w := by
 go_enter func206, ntmps206
 go_wp2_with fail
 refine (i_upperRow op _).mono ?_
 rintro e w1 ⟨rfl, hb1⟩
 obtain ⟨hc, hf⟩ := bcell hb1
 have hz : w.heap.size < w1.heap.size := zq43
 simp only [rowV]
 go_wp2
 exact bodyPost_ret (v := rowV (Tab.upperRow op)) zq511 rfl ⟨rfl, below3 hb1 _ _ _ _ _ _ (by simp) (by simp) (by simp)⟩
theorem i_longRow_jumpRow (op : Int) (h1 : 3 <= op) (h2 : op <= 10) (w : World) :
 CB 206 #[.int .i64 op] (rowV (Tab.jumpRow op)) w := by
 go_enter func206, ntmps206
 go_wp2_with fail
 refine (i_jumpRow op _).mono ?_
 rintro e w1 ⟨rfl, hb1⟩
 obtain ⟨hc, hf⟩ := bcell hb1
 have hz : w.heap.size < w1.heap.size := zq43
 simp only [rowV]
 go_wp2
 exact bodyPost_ret (v := rowV (Tab.jumpRow op)) zq511 rfl ⟨rfl, below3 hb1 _ _ _ _ _ _ (by simp) (by simp) (by simp)⟩
theorem i_longRow_memoryRow (op : Int) (h1 : 11 <= op) (h2 : op <= 18) (w : World) :
 CB 206 #[.int .i64 op] (rowV (Tab.memoryRow op)) w := by
 go_enter func206, ntmps206
 go_wp2_with fail
 refine (i_memoryRow op _).mono ?_
 rintro e w1 ⟨rfl, hb1⟩
 obtain ⟨hc, hf⟩ := bcell hb1
 have hz : w.heap.size < w1.heap.size := zq43
 simp only [rowV]
 go_wp2
 exact bodyPost_ret (v := rowV (Tab.memoryRow op)) zq511 rfl ⟨rfl, below3 hb1 _ _ _ _ _ _ (by simp) (by simp) (by simp)⟩
theorem i_longRow_immediateRow (op : Int) (h1 : 19 <= op) (h2 : op <= 27) (w : World) :
 CB 206 #[.int .i64 op] (rowV (Tab.immediateRow op)) w := by
 go_enter func206, ntmps206
 go_wp2_with fail
 refine (i_immediateRow op _).mono ?_
 rintro e w1 ⟨rfl, hb1⟩
 obtain ⟨hc, hf⟩ := bcell hb1
 have hz : w.heap.size < w1.heap.size := zq43
 simp only [rowV]
 go_wp2
 exact bodyPost_ret (v := rowV (Tab.immediateRow op)) zq511 rfl ⟨rfl, below3 hb1 _ _ _ _ _ _ (by simp) (by simp) (by simp)⟩
theorem i_longRow_registerRow (op : Int) (h1 : 28 <= op) (h2 : op <= 37) (w : World) :
 CB 206 #[.int .i64 op] (rowV (Tab.registerRow op)) w := by
 go_enter func206, ntmps206
 go_wp2_with fail
 refine (i_registerRow op _).mono ?_
 rintro e w1 ⟨rfl, hb1⟩
 obtain ⟨hc, hf⟩ := bcell hb1
 have hz : w.heap.size < w1.heap.size := zq43
 simp only [rowV]
 go_wp2
 exact bodyPost_ret (v := rowV (Tab.registerRow op)) zq511 rfl ⟨rfl, below3 hb1 _ _ _ _ _ _ (by simp) (by simp) (by simp)⟩
theorem i_longRow_fenceRow (op : Int) (h1 : 38 <= op) (h2 : op <= 41) (w : World) :
 CB 206 #[.int .i64 op] (rowV (Tab.fenceRow op)) w := by
 go_enter func206, ntmps206
 go_wp2_with fail
 refine (i_fenceRow op _).mono ?_
 rintro e w1 ⟨rfl, hb1⟩
 obtain ⟨hc, hf⟩ := bcell hb1
 have hz : w.heap.size < w1.heap.size := zq43
 simp only [rowV]
 go_wp2
 exact bodyPost_ret (v := rowV (Tab.fenceRow op)) zq511 rfl ⟨rfl, below3 hb1 _ _ _ _ _ _ (by simp) (by simp) (by simp)⟩
theorem i_longRow_productRow (op : Int) (h1 : 42 <= op) (h2 : op <= 49) (w : World) :
 CB 206 #[.int .i64 op] (rowV (Tab.productRow op)) w := by
 go_enter func206, ntmps206
 go_wp2_with fail
 refine (i_productRow op _).mono ?_
 rintro e w1 ⟨rfl, hb1⟩
 obtain ⟨hc, hf⟩ := bcell hb1
 have hz : w.heap.size < w1.heap.size := zq43
 simp only [rowV]
 go_wp2
 exact bodyPost_ret (v := rowV (Tab.productRow op)) zq511 rfl ⟨rfl, below3 hb1 _ _ _ _ _ _ (by simp) (by simp) (by simp)⟩
theorem i_longRow_atomicRow (op : Int) (h1 : 50 <= op) (h2 : op <= 60) (w : World) :
 CB 206 #[.int .i64 op] (rowV (Tab.atomicRow op)) w := by
 go_enter func206, ntmps206
 go_wp2_with fail
 refine (i_atomicRow op _).mono ?_
 rintro e w1 ⟨rfl, hb1⟩
 obtain ⟨hc, hf⟩ := bcell hb1
 have hz : w.heap.size < w1.heap.size := zq43
 simp only [rowV]
 go_wp2
 exact bodyPost_ret (v := rowV (Tab.atomicRow op)) zq511 rfl ⟨rfl, below3 hb1 _ _ _ _ _ _ (by simp) (by simp) (by simp)⟩
theorem i_longRow_systemRow (op : Int) (h1 : 61 <= op) (w : World) :
 CB 206 #[.int .i64 op] (rowV (Tab.systemRow op)) w := by
 go_enter func206, ntmps206
 go_wp2_with fail
 refine (i_systemRow op _).mono ?_
 rintro e w1 ⟨rfl, hb1⟩
 obtain ⟨hc, hf⟩ := bcell hb1
 have hz : w.heap.size < w1.heap.size := zq43
 simp only [rowV]
 go_wp2
 exact bodyPost_ret (v := rowV (Tab.systemRow op)) zq511 rfl ⟨rfl, below3 hb1 _ _ _ _ _ _ (by simp) (by simp) (by simp)⟩
theorem i_longRow (op : Int) (w : World) :
 CB 206 #[.int .i64 op] (rowV (Tab.longRow op)) w := by
 unfold Tab.longRow
 by_cases c0 : op <= 2
 . rw [decide_eq_true c0, cond_true]; exact i_longRow_upperRow op c0 w
 by_cases c1 : op <= 10
 . rw [decide_eq_false c0, cond_false, decide_eq_true c1, cond_true]; exact i_longRow_jumpRow op (by omega) c1 w
 by_cases c2 : op <= 18
 . rw [decide_eq_false c0, cond_false, decide_eq_false c1, cond_false, decide_eq_true c2, cond_true]; exact i_longRow_memoryRow op (by omega) c2 w
 by_cases c3 : op <= 27
 . rw [decide_eq_false c0, cond_false, decide_eq_false c1, cond_false, decide_eq_false c2, cond_false, decide_eq_true c3, cond_true]; exact i_longRow_immediateRow op (by omega) c3 w
 by_cases c4 : op <= 37
 . rw [decide_eq_false c0, cond_false, decide_eq_false c1, cond_false, decide_eq_false c2, cond_false, decide_eq_false c3, cond_false, decide_eq_true c4, cond_true]; exact i_longRow_registerRow op (by omega) c4 w
 by_cases c5 : op <= 41
 . rw [decide_eq_false c0, cond_false, decide_eq_false c1, cond_false, decide_eq_false c2, cond_false, decide_eq_false c3, cond_false, decide_eq_false c4, cond_false, decide_eq_true c5, cond_true]; exact i_longRow_fenceRow op (by omega) c5 w
 by_cases c6 : op <= 49
 . rw [decide_eq_false c0, cond_false, decide_eq_false c1, cond_false, decide_eq_false c2, cond_false, decide_eq_false c3, cond_false, decide_eq_false c4, cond_false, decide_eq_false c5, cond_false, decide_eq_true c6, cond_true]; exact i_longRow_productRow op (by omega) c6 w
 by_cases c7 : op <= 60
 . rw [decide_eq_false c0, cond_false, decide_eq_false c1, cond_false, decide_eq_false c2, cond_false, decide_eq_false c3, cond_false, decide_eq_false c4, cond_false, decide_eq_false c5, cond_false, decide_eq_false c6, cond_false, decide_eq_true c7, cond_true]; exact i_longRow_atomicRow op (by omega) c7 w
 rw [decide_eq_false c0, cond_false, decide_eq_false c1, cond_false, decide_eq_false c2, cond_false, decide_eq_false c3, cond_false, decide_eq_false c4, cond_false, decide_eq_false c5, cond_false, decide_eq_false c6, cond_false, decide_eq_false c7, cond_false]
 exact i_longRow_systemRow op (by omega) w
theorem i_shortRow_shortRow00 (op : Int) (h2 : op <= 3) (w : World) :
 CB 207 #[.int .i64 op] (rowV (Tab.shortRow00 op)) w := by
 go_enter func207, ntmps207
 go_wp2_with fail
 refine (i_shortRow00 op _).mono ?_
 rintro e w1 ⟨rfl, hb1⟩
 obtain ⟨hc, hf⟩ := bcell hb1
 have hz : w.heap.size < w1.heap.size := zq43
 simp only [rowV]
 go_wp2
 exact bodyPost_ret (v := rowV (Tab.shortRow00 op)) zq512 rfl ⟨rfl, below3 hb1 _ _ _ _ _ _ (by simp) (by simp) (by simp)⟩
theorem i_shortRow_shortRow01 (op : Int) (h1 : 4 <= op) (h2 : op <= 18) (w : World) :
 CB 207 #[.int .i64 op] (rowV (Tab.shortRow01 op)) w := by
 go_enter func207, ntmps207
 go_wp2_with fail
 refine (i_shortRow01 op _).mono ?_
 rintro e w1 ⟨rfl, hb1⟩
 obtain ⟨hc, hf⟩ := bcell hb1
 have hz : w.heap.size < w1.heap.size := zq43
 simp only [rowV]
 go_wp2
 exact bodyPost_ret (v := rowV (Tab.shortRow01 op)) zq512 rfl ⟨rfl, below3 hb1 _ _ _ _ _ _ (by simp) (by simp) (by simp)⟩
theorem i_shortRow_shortRow10 (op : Int) (h1 : 19 <= op) (w : World) :
 CB 207 #[.int .i64 op] (rowV (Tab.shortRow10 op)) w := by
 go_enter func207, ntmps207
 go_wp2_with fail
 refine (i_shortRow10 op _).mono ?_
 rintro e w1 ⟨rfl, hb1⟩
 obtain ⟨hc, hf⟩ := bcell hb1
 have hz : w.heap.size < w1.heap.size := zq43
 simp only [rowV]
 go_wp2
 exact bodyPost_ret (v := rowV (Tab.shortRow10 op)) zq512 rfl ⟨rfl, below3 hb1 _ _ _ _ _ _ (by simp) (by simp) (by simp)⟩
theorem i_shortRow (op : Int) (w : World) :
 CB 207 #[.int .i64 op] (rowV (Tab.shortRow op)) w := by
 unfold Tab.shortRow
 by_cases c0 : op <= 3
 . rw [decide_eq_true c0, cond_true]; exact i_shortRow_shortRow00 op c0 w
 by_cases c1 : op <= 18
 . rw [decide_eq_false c0, cond_false, decide_eq_true c1, cond_true]; exact i_shortRow_shortRow01 op (by omega) c1 w
 rw [decide_eq_false c0, cond_false, decide_eq_false c1, cond_false]
 exact i_shortRow_shortRow10 op (by omega) w
def rowAt (size n : Int) : Int × ByteArray × Int := bif size == 4 then Tab.longRow n else Tab.shortRow n
theorem i_rowAt (size op : Int) (w : World) :
 CB 138 #[.int .i64 size, .int .i64 op] (rowV (rowAt size op)) w := by
 unfold rowAt
 cases h : (size == 4)
 . go_enter func138, ntmps138
   go_wp2_with fail
   refine (i_shortRow op _).mono ?_
   rintro e w1 ⟨rfl, hb1⟩
   obtain ⟨hc, hf⟩ := bcell hb1
   have hz : w.heap.size < w1.heap.size := zq43
   simp only [rowV]
   go_wp2
   exact bodyPost_ret (v := rowV (Tab.shortRow op)) zq513 rfl ⟨by simp [h], below3 hb1 _ _ _ _ _ _ (by simp) (by simp) (by simp)⟩
 . go_enter func138, ntmps138
   go_wp2_with fail
   refine (i_longRow op _).mono ?_
   rintro e w1 ⟨rfl, hb1⟩
   obtain ⟨hc, hf⟩ := bcell hb1
   have hz : w.heap.size < w1.heap.size := zq43
   simp only [rowV]
   go_wp2
   exact bodyPost_ret (v := rowV (Tab.longRow op)) zq513 rfl ⟨by simp [h], below3 hb1 _ _ _ _ _ _ (by simp) (by simp) (by simp)⟩
def hasB (r k : Int) : Bool := bits .and .i64 r k != 0
theorem i_has (a : Int) (s : ByteArray) (r k : Int) (w : World) :
 Calls prog 300 #[.agg #[.int .i64 a, .string s, .int .i64 r], .int .i64 k] w fun e w' => e = .returned (.bool (hasB r k)) /\ w.alloc (.cells #[.int .i64 a, .string s, .int .i64 r] 152) = w' := by
 go_enter func300, ntmps300
 exact zq195
def toldRd (r : Int) : Int := bif hasB r 2 then 1 else bif hasB r 4 then 2 else 0
def toldRs1 (r : Int) : Int := bif hasB r 8 then 2 else 0
theorem i_toldRd (a : Int) (s : ByteArray) (r : Int) (w : World) :
 CB 297 #[.agg #[.int .i64 a, .string s, .int .i64 r]] (.int .i64 (toldRd r)) w := by
 unfold toldRd
 go_enter func297, ntmps297
 go_wp2_with fail
 refine (i_has a s r 2 _).mono ?_
 rintro e w1 ⟨rfl, rfl⟩
 cases h2 : hasB r 2
 . go_wp2_with fail
   refine (i_has a s r 4 _).mono ?_
   rintro e w1 ⟨rfl, rfl⟩
   cases h4 : hasB r 4
   . exact zq253
   . exact zq253
 . exact zq254
theorem i_toldRs1 (a : Int) (s : ByteArray) (r : Int) (w : World) :
 CB 298 #[.agg #[.int .i64 a, .string s, .int .i64 r]] (.int .i64 (toldRs1 r)) w := by
 unfold toldRs1
 go_enter func298, ntmps298
 go_wp2_with fail
 refine (i_has a s r 8 _).mono ?_
 rintro e w1 ⟨rfl, rfl⟩
 cases h2 : hasB r 8
 . exact zq254
 . exact zq254
theorem reg_bd (s : ByteArray) (hs : s.size <= 32) (c : UInt8) (W : Nat) : regOf s c W <= 4294967304 := by
 have hlen : (Pic.rv s.data.toList s.size).length <= 32 := by rw [Pic.rv_length _ _ (by simp)]; exact hs
 have a := Pic.val_lt (· == c) (Pic.rv s.data.toList s.size) W
 have b := Pic.cnt_le (· == c) (Pic.rv s.data.toList s.size)
 have c2 : 2 ^ Pic.cnt (· == c) (Pic.rv s.data.toList s.size) <= 2 ^ 32 := zq4
 have d : (2 : Nat) ^ 32 = 4294967296 := by decide
 unfold regOf
 simp only
 split <;> omega
theorem told_bd (r : Int) : 0 <= toldRd r /\ toldRd r <= 2 /\ 0 <= toldRs1 r /\ toldRs1 r <= 2 := by
 unfold toldRd toldRs1
 cases hasB r 2 <;> cases hasB r 4 <;> cases hasB r 8 <;> simp
theorem i_read (a : Int) (s : ByteArray) (hs : s.size <= 32) (r : Int) (W : Nat) (hW : W < 4294967296) (w : World) :
 Calls prog 209 #[.agg #[.int .i64 a, .string s, .int .i64 r], .int .i64 W] w fun e w' =>
  e = .returned (.agg #[.int .i64 a, .int .i64 ((regOf s 68 W : Int) + regOf s 66 W + toldRd r), .int .i64 ((regOf s 83 W : Int) + regOf s 66 W + toldRs1 r), .int .i64 (regOf s 84 W), .int .i64 (immOf s (hasB r 1) W), .int .i64 ((s.size : Int) / 8)]) /\ Below w.heap.size w w' := by
 have b1 := reg_bd s hs 68 W
 have b2 := reg_bd s hs 66 W
 have b3 := reg_bd s hs 83 W
 have b4 := reg_bd s hs 84 W
 obtain ⟨t1, t2, t3, t4⟩ := told_bd r
 go_enter func209, ntmps209
 go_wp2_with fail
 refine (i_register s hs 66 W hW _).mono ?_
 rintro e w1 ⟨rfl, rfl⟩
 go_wp2_with fail
 refine (i_register s hs 68 W hW _).mono ?_
 rintro e w1 ⟨rfl, rfl⟩
 go_wp2_with fail
 refine (i_register s hs 83 W hW _).mono ?_
 rintro e w1 ⟨rfl, rfl⟩
 go_wp2_with fail
 refine (i_register s hs 84 W hW _).mono ?_
 rintro e w1 ⟨rfl, rfl⟩
 go_wp2_with fail
 refine (i_toldRd a s r _).mono ?_
 rintro e w1 ⟨rfl, hb1⟩
 obtain ⟨hc, hf⟩ := bcell hb1
 have hz : w.heap.size + 1 < w1.heap.size := zq43
 go_wp2_with fail
 refine (i_toldRs1 a s r _).mono ?_
 rintro e w2 ⟨rfl, hb2⟩
 obtain ⟨hc2, hf2⟩ := bcell hb2
 have hz2 : w.heap.size + 1 < w2.heap.size := by have := hb2.size; omega
 have hz3 : w.heap.size < w2.heap.size := by omega
 have q0 : w2.cell? ⟨w.heap.size, 0, none⟩ = some (.int .i64 a) := zq44
 have q1 : w2.cell? ⟨w.heap.size, 1, none⟩ = some (.string s) := zq44
 have q2 : w2.cell? ⟨w.heap.size, 2, none⟩ = some (.int .i64 r) := zq44
 have z0 : w2.cell? ⟨w.heap.size + 1, 0, none⟩ = some (.int .i64 0) := zq45
 have z1 : w2.cell? ⟨w.heap.size + 1, 1, none⟩ = some (.int .i64 0) := zq45
 have z2 : w2.cell? ⟨w.heap.size + 1, 2, none⟩ = some (.int .i64 0) := zq45
 have z3 : w2.cell? ⟨w.heap.size + 1, 3, none⟩ = some (.int .i64 0) := zq45
 have z4 : w2.cell? ⟨w.heap.size + 1, 4, none⟩ = some (.int .i64 0) := zq45
 have z5 : w2.cell? ⟨w.heap.size + 1, 5, none⟩ = some (.int .i64 0) := zq45
 have g0 : ∀ o, w2.frozen? ⟨w.heap.size + 1, o, none⟩ = false := by intro o; rw [hf2 _ _ (by omega), hf _ _ (by simp)]; simp
 have bb : Below w.heap.size w w2 := (((Below.refl _ _).alloc (Nat.le_refl _) _).alloc (by simp) _).trans (hb1.mono (by simp; omega)) |>.trans (hb2.mono (by omega))
 have BB : Hid (Below w.heap.size w w2) := bb
 clear hc hc2 hf hf2 bb hb1 hb2
 go_wp2_with fail
 go_region_with (first | (go_at_call 300; refine (i_has a s r 1 _).mono ?_; rintro e w3 ⟨rfl, rfl⟩) | (go_at_call 299; refine (i_immediate s hs _ W hW _).mono ?_; rintro e w3 ⟨rfl, rfl⟩))
 all_goals go_wp2
 all_goals refine bodyPost_ret (v := .agg #[.int .i64 a, .int .i64 ((regOf s 68 W : Int) + regOf s 66 W + toldRd r), .int .i64 ((regOf s 83 W : Int) + regOf s 66 W + toldRs1 r), .int .i64 (regOf s 84 W), .int .i64 (immOf s (hasB r 1) W), .int .i64 ((s.size : Int) / 8)]) (by simp [results, results209, go_sem, z0, z1, z2, z3, z4, z5, hz2]) rfl ⟨rfl, ?_⟩
 all_goals repeat (first | with_reducible exact BB.out | with_reducible refine Below.drew ?_ | with_reducible refine Below.setCell ?_ (by simp) _ | with_reducible refine Below.alloc ?_ (by simp; omega) _)
def rulesOut (r rd rs1 rs2 im : Int) : Bool :=
 (im == 0 && hasB r 16) || (rd == 0 && hasB r 32) || (rs1 == 0 && hasB r 64) || (rs2 == 0 && hasB r 128) || (rd == 2 && hasB r 256)
structure RO (a : Int) (s : ByteArray) (r rd rs1 rs2 : Int) (w wc : World) : Prop where
 below : Below w.heap.size w wc
 size : w.heap.size + 1 < wc.heap.size
 c0 : wc.cell? ⟨w.heap.size, 0, none⟩ = some (.int .i64 a)
 c1 : wc.cell? ⟨w.heap.size, 1, none⟩ = some (.string s)
 c2 : wc.cell? ⟨w.heap.size, 2, none⟩ = some (.int .i64 r)
 d1 : wc.cell? ⟨w.heap.size + 1, 1, none⟩ = some (.int .i64 rd)
 d2 : wc.cell? ⟨w.heap.size + 1, 2, none⟩ = some (.int .i64 rs1)
 d3 : wc.cell? ⟨w.heap.size + 1, 3, none⟩ = some (.int .i64 rs2)
theorem RO.start (a : Int) (s : ByteArray) (r op rd rs1 rs2 im ln : Int) (w : World) (t u : TypeId) :
 RO a s r rd rs1 rs2 w ((w.alloc (.cells #[.int .i64 a, .string s, .int .i64 r] t)).alloc (.cells #[.int .i64 op, .int .i64 rd, .int .i64 rs1, .int .i64 rs2, .int .i64 im, .int .i64 ln] u)) :=
 ⟨((Below.refl _ _).alloc (Nat.le_refl _) _).alloc (by simp) _, by simp, by simp, by simp, by simp, by simp, by simp, by simp⟩
theorem RO.more {a : Int} {s : ByteArray} {r rd rs1 rs2 : Int} {w wc : World} (h : RO a s r rd rs1 rs2 w wc) (o : Obj) : RO a s r rd rs1 rs2 w (wc.alloc o) := by
 have z := h.size
 have e : ∀ b o', b < wc.heap.size -> (wc.alloc o).cell? ⟨b, o', none⟩ = wc.cell? ⟨b, o', none⟩ := fun b o' hb =>
  (((Below.refl wc.heap.size wc).alloc (Nat.le_refl _) o).cell (p := ⟨b, o', none⟩) hb)
 exact ⟨h.below.alloc (by omega) _, by simp; omega, (e _ _ (by omega)).trans h.c0, (e _ _ (by omega)).trans h.c1, (e _ _ (by omega)).trans h.c2, (e _ _ (by omega)).trans h.d1, (e _ _ (by omega)).trans h.d2, (e _ _ (by omega)).trans h.d3⟩
theorem i_rulesOut (a : Int) (s : ByteArray) (r op rd rs1 rs2 im ln : Int) (w : World) :
 Calls prog 210 #[.agg #[.int .i64 a, .string s, .int .i64 r], .agg #[.int .i64 op, .int .i64 rd, .int .i64 rs1, .int .i64 rs2, .int .i64 im, .int .i64 ln]] w fun e w' =>
  e = .returned (.bool (rulesOut r rd rs1 rs2 im)) /\ Below w.heap.size w w' := by
 unfold rulesOut
 go_enter func210, ntmps210
 go_upto_region 1 with fail
 go_cut [5] (fun b wc => b = .bool (im == 0 && hasB r 16) /\ RO a s r rd rs1 rs2 w wc)
 case first =>
  cases h0 : (im == 0)
  . go_wp2
    go_meet
    case rel => exact ⟨by rw [h0, Bool.false_and], RO.start _ _ _ _ _ _ _ _ _ _ _ _⟩
  . go_wp2_with (go_at_call 300; refine (i_has a s r _ _).mono ?_; rintro e w3 ⟨rfl, rfl⟩)
    go_meet
    case rel => exact ⟨by rw [h0, Bool.true_and], (RO.start _ _ _ _ _ _ _ _ _ _ _ _).more _⟩
 case rest =>
  obtain ⟨rfl, hro⟩ := hcut
  cases hb0 : (im == 0 && hasB r 16)
  case true =>
   go_wp2
   go_ret
   exact ⟨by simp [hb0], hro.below⟩
  case false =>
   obtain ⟨wo, rfl⟩ := zn1 (wc : World)
   have z0 := hro.c0
   have z1 := hro.c1
   have z2 := hro.c2
   have z3 := hro.d1
   have z4 := hro.d2
   have z5 := hro.d3
   have z6 : w.heap.size < wo.heap.size := by have := hro.size; omega
   have z7 := hro.size
   go_upto_region 3 with fail
   go_cut [13] (fun b wc => b = .bool (rd == 0 && hasB r 32) /\ RO a s r rd rs1 rs2 w wc)
   case first =>
    cases h1 : (rd == 0)
    . go_wp2
      go_meet
      case rel => exact ⟨by rw [h1, Bool.false_and], hro⟩
    . go_wp2_with (go_at_call 300; refine (i_has a s r _ _).mono ?_; rintro e w3 ⟨rfl, rfl⟩)
      go_meet
      case rel => exact ⟨by rw [h1, Bool.true_and], (hro).more _⟩
   case rest =>
    clear z0 z1 z2 z3 z4 z5 z6 z7 hro; obtain ⟨rfl, hro⟩ := hcut
    cases hb1 : (rd == 0 && hasB r 32)
    case true =>
     go_wp2
     go_ret
     exact ⟨by simp [hb0, hb1], hro.below⟩
    case false =>
     obtain ⟨wo, rfl⟩ := zn1 (wc : World)
     have z0 := hro.c0
     have z1 := hro.c1
     have z2 := hro.c2
     have z3 := hro.d1
     have z4 := hro.d2
     have z5 := hro.d3
     have z6 : w.heap.size < wo.heap.size := by have := hro.size; omega
     have z7 := hro.size
     go_upto_region 5 with fail
     go_cut [21] (fun b wc => b = .bool (rs1 == 0 && hasB r 64) /\ RO a s r rd rs1 rs2 w wc)
     case first =>
      cases h2 : (rs1 == 0)
      . go_wp2
        go_meet
        case rel => exact ⟨by rw [h2, Bool.false_and], hro⟩
      . go_wp2_with (go_at_call 300; refine (i_has a s r _ _).mono ?_; rintro e w3 ⟨rfl, rfl⟩)
        go_meet
        case rel => exact ⟨by rw [h2, Bool.true_and], (hro).more _⟩
     case rest =>
      clear z0 z1 z2 z3 z4 z5 z6 z7 hro; obtain ⟨rfl, hro⟩ := hcut
      cases hb2 : (rs1 == 0 && hasB r 64)
      case true =>
       go_wp2
       go_ret
       exact ⟨by simp [hb0, hb1, hb2], hro.below⟩
      case false =>
       obtain ⟨wo, rfl⟩ := zn1 (wc : World)
       have z0 := hro.c0
       have z1 := hro.c1
       have z2 := hro.c2
       have z3 := hro.d1
       have z4 := hro.d2
       have z5 := hro.d3
       have z6 : w.heap.size < wo.heap.size := by have := hro.size; omega
       have z7 := hro.size
       go_upto_region 7 with fail
       go_cut [29] (fun b wc => b = .bool (rs2 == 0 && hasB r 128) /\ RO a s r rd rs1 rs2 w wc)
       case first =>
        cases h3 : (rs2 == 0)
        . go_wp2
          go_meet
          case rel => exact ⟨by rw [h3, Bool.false_and], hro⟩
        . go_wp2_with (go_at_call 300; refine (i_has a s r _ _).mono ?_; rintro e w3 ⟨rfl, rfl⟩)
          go_meet
          case rel => exact ⟨by rw [h3, Bool.true_and], (hro).more _⟩
       case rest =>
        clear z0 z1 z2 z3 z4 z5 z6 z7 hro; obtain ⟨rfl, hro⟩ := hcut
        cases hb3 : (rs2 == 0 && hasB r 128)
        case true =>
         go_wp2
         go_ret
         exact ⟨by simp [hb0, hb1, hb2, hb3], hro.below⟩
        case false =>
         obtain ⟨wo, rfl⟩ := zn1 (wc : World)
         have z0 := hro.c0
         have z1 := hro.c1
         have z2 := hro.c2
         have z3 := hro.d1
         have z4 := hro.d2
         have z5 := hro.d3
         have z6 : w.heap.size < wo.heap.size := by have := hro.size; omega
         have z7 := hro.size
         go_upto_region 9 with fail
         go_cut [37] (fun b wc => b = .bool (rd == 2 && hasB r 256) /\ RO a s r rd rs1 rs2 w wc)
         case first =>
          cases h4 : (rd == 2)
          . go_wp2
            go_meet
            case rel => exact ⟨by rw [h4, Bool.false_and], hro⟩
          . go_wp2_with (go_at_call 300; refine (i_has a s r _ _).mono ?_; rintro e w3 ⟨rfl, rfl⟩)
            go_meet
            case rel => exact ⟨by rw [h4, Bool.true_and], (hro).more _⟩
         case rest =>
          clear z0 z1 z2 z3 z4 z5 z6 z7 hro; obtain ⟨rfl, hro⟩ := hcut
          cases hb4 : (rd == 2 && hasB r 256)
          case true =>
           exact zq255
          case false =>
           exact zq255
structure Ins where
 op : Int
 rd : Int
 rs1 : Int
 rs2 : Int
 im : Int
 ln : Int
def insV (i : Ins) : Value := .agg #[.int .i64 i.op, .int .i64 i.rd, .int .i64 i.rs1, .int .i64 i.rs2, .int .i64 i.im, .int .i64 i.ln]
theorem hide {p : Prop} (h : p) : Hid p := h
def ins0 : Ins := ⟨0, 0, 0, 0, 0, 0⟩
def rowIns (t : Int × ByteArray × Int) (W : Nat) : Ins :=
 ⟨t.1, (regOf t.2.1 68 W : Int) + regOf t.2.1 66 W + toldRd t.2.2, (regOf t.2.1 83 W : Int) + regOf t.2.1 66 W + toldRs1 t.2.2, regOf t.2.1 84 W, immOf t.2.1 (hasB t.2.2 1) W, (t.2.1.size : Int) / 8⟩
def rowFits (t : Int × ByteArray × Int) (W : Nat) : Bool :=
 Pic.fits (Pic.rv t.2.1.data.toList t.2.1.size) W && !rulesOut t.2.2 (rowIns t W).rd (rowIns t W).rs1 (rowIns t W).rs2 (rowIns t W).im
theorem below6 {w w1 : World} (h : Below w.heap.size w w1) (n : Nat) (hn : w.heap.size <= n) (a b c d e f : Value) :
 Below w.heap.size w ((((((w1.setCell ⟨n, 0, none⟩ a).setCell ⟨n, 1, none⟩ b).setCell ⟨n, 2, none⟩ c).setCell ⟨n, 3, none⟩ d).setCell ⟨n, 4, none⟩ e).setCell ⟨n, 5, none⟩ f) :=
 (((((h.setCell hn _).setCell hn _).setCell hn _).setCell hn _).setCell hn _).setCell hn _
theorem i_meaning_no1 (a : Int) (s : ByteArray) (hs : s.size <= 32) (r : Int) (W : Nat) (hW : W < 4294967296) (w : World) (hf : Pic.fits (Pic.rv s.data.toList s.size) W = false) :
 CB 139 #[.agg #[.int .i64 a, .string s, .int .i64 r], .int .i64 W] (.tuple #[.agg #[.int .i64 0, .int .i64 0, .int .i64 0, .int .i64 0, .int .i64 0, .int .i64 0], .bool false]) w := by
 go_enter func139, ntmps139
 go_wp2_with fail
 refine (i_fixed s hs W hW _).mono ?_
 rintro e w1 ⟨rfl, rfl⟩
 go_wp2
 exact bodyPost_ret (v := .tuple #[.agg #[.int .i64 0, .int .i64 0, .int .i64 0, .int .i64 0, .int .i64 0, .int .i64 0], .bool false]) (by simp [results, results139, go_sem]) rfl ⟨rfl, ((Below.refl _ _).alloc (Nat.le_refl _) _).alloc (by simp) _⟩
theorem i_meaning_no2 (a : Int) (s : ByteArray) (hs : s.size <= 32) (r : Int) (W : Nat) (hW : W < 4294967296) (w : World) (hf : Pic.fits (Pic.rv s.data.toList s.size) W = true)
 (hro : rulesOut r ((regOf s 68 W : Int) + regOf s 66 W + toldRd r) ((regOf s 83 W : Int) + regOf s 66 W + toldRs1 r) (regOf s 84 W) (immOf s (hasB r 1) W) = true) :
 CB 139 #[.agg #[.int .i64 a, .string s, .int .i64 r], .int .i64 W] (.tuple #[.agg #[.int .i64 0, .int .i64 0, .int .i64 0, .int .i64 0, .int .i64 0, .int .i64 0], .bool false]) w := by
 go_enter func139, ntmps139
 go_wp2_with fail
 refine (i_fixed s hs W hW _).mono ?_
 rintro e w1 ⟨rfl, rfl⟩
 go_wp2_with fail
 refine (i_read a s hs r W hW _).mono ?_
 rintro e w1 ⟨rfl, hb1⟩
 obtain ⟨hc, hfz⟩ := bcell hb1
 have hz : w.heap.size + 1 < w1.heap.size := zq43
 have hz0 : w.heap.size < w1.heap.size := by omega
 have bb : Hid (Below w.heap.size w w1) := zq46
 have hb1' := hide hb1
 clear hb1
 go_wp2_with fail
 refine (i_rulesOut a s r _ _ _ _ _ _ _).mono ?_
 rintro e w2 ⟨rfl, hb2⟩
 obtain ⟨hc2, hfz2⟩ := bcell hb2
 have hz2 : w1.heap.size < w2.heap.size := by have := hb2.size; simp at this; omega
 have hz3 : w.heap.size + 1 < w2.heap.size := by omega
 have b2 : Hid (Below w.heap.size w w2) := (bb.out.alloc (by omega) _).trans (hb2.mono (by simp; omega))
 have hB := (hb1'.out.alloc (by simp; omega) _).trans (hb2.mono (by simp; omega))
 have y0 : w2.cell? ⟨w.heap.size + 1, 0, none⟩ = some (.int .i64 0) := zq47
 have y1 : w2.cell? ⟨w.heap.size + 1, 1, none⟩ = some (.int .i64 0) := zq47
 have y2 : w2.cell? ⟨w.heap.size + 1, 2, none⟩ = some (.int .i64 0) := zq47
 have y3 : w2.cell? ⟨w.heap.size + 1, 3, none⟩ = some (.int .i64 0) := zq47
 have y4 : w2.cell? ⟨w.heap.size + 1, 4, none⟩ = some (.int .i64 0) := zq47
 have y5 : w2.cell? ⟨w.heap.size + 1, 5, none⟩ = some (.int .i64 0) := zq47
 have g1 : ∀ o, w2.frozen? ⟨w.heap.size + 1, o, none⟩ = false := fun o => (hB.frozen (by simp)).trans (by simp)
 have x0 : w2.cell? ⟨w1.heap.size, 0, none⟩ = some (.int .i64 a) := zq48
 have x1 : w2.cell? ⟨w1.heap.size, 1, none⟩ = some (.int .i64 ((regOf s 68 W : Int) + regOf s 66 W + toldRd r)) := zq48
 have x2 : w2.cell? ⟨w1.heap.size, 2, none⟩ = some (.int .i64 ((regOf s 83 W : Int) + regOf s 66 W + toldRs1 r)) := zq48
 have x3 : w2.cell? ⟨w1.heap.size, 3, none⟩ = some (.int .i64 (regOf s 84 W)) := zq48
 have x4 : w2.cell? ⟨w1.heap.size, 4, none⟩ = some (.int .i64 (immOf s (hasB r 1) W)) := zq48
 have x5 : w2.cell? ⟨w1.heap.size, 5, none⟩ = some (.int .i64 ((s.size : Int) / 8)) := zq48
 clear hb2 bb hb1' hB hc hfz hc2 hfz2
 go_wp2
 exact bodyPost_ret (v := .tuple #[.agg #[.int .i64 0, .int .i64 0, .int .i64 0, .int .i64 0, .int .i64 0, .int .i64 0], .bool false]) zq514 rfl ⟨rfl, below6 b2.out _ (by simp) _ _ _ _ _ _⟩
theorem i_meaning_yes (a : Int) (s : ByteArray) (hs : s.size <= 32) (r : Int) (W : Nat) (hW : W < 4294967296) (w : World) (hf : Pic.fits (Pic.rv s.data.toList s.size) W = true)
 (hro : rulesOut r ((regOf s 68 W : Int) + regOf s 66 W + toldRd r) ((regOf s 83 W : Int) + regOf s 66 W + toldRs1 r) (regOf s 84 W) (immOf s (hasB r 1) W) = false) :
 CB 139 #[.agg #[.int .i64 a, .string s, .int .i64 r], .int .i64 W] (.tuple #[.agg #[.int .i64 a, .int .i64 ((regOf s 68 W : Int) + regOf s 66 W + toldRd r), .int .i64 ((regOf s 83 W : Int) + regOf s 66 W + toldRs1 r), .int .i64 (regOf s 84 W), .int .i64 (immOf s (hasB r 1) W), .int .i64 ((s.size : Int) / 8)], .bool true]) w := by
 go_enter func139, ntmps139
 go_wp2_with fail
 refine (i_fixed s hs W hW _).mono ?_
 rintro e w1 ⟨rfl, rfl⟩
 go_wp2_with fail
 refine (i_read a s hs r W hW _).mono ?_
 rintro e w1 ⟨rfl, hb1⟩
 obtain ⟨hc, hfz⟩ := bcell hb1
 have hz : w.heap.size + 1 < w1.heap.size := zq43
 have hz0 : w.heap.size < w1.heap.size := by omega
 have bb : Hid (Below w.heap.size w w1) := zq46
 have hb1' := hide hb1
 clear hb1
 go_wp2_with fail
 refine (i_rulesOut a s r _ _ _ _ _ _ _).mono ?_
 rintro e w2 ⟨rfl, hb2⟩
 obtain ⟨hc2, hfz2⟩ := bcell hb2
 have hz2 : w1.heap.size < w2.heap.size := by have := hb2.size; simp at this; omega
 have hz3 : w.heap.size + 1 < w2.heap.size := by omega
 have b2 : Hid (Below w.heap.size w w2) := (bb.out.alloc (by omega) _).trans (hb2.mono (by simp; omega))
 have hB := (hb1'.out.alloc (by simp; omega) _).trans (hb2.mono (by simp; omega))
 have y0 : w2.cell? ⟨w.heap.size + 1, 0, none⟩ = some (.int .i64 0) := zq47
 have y1 : w2.cell? ⟨w.heap.size + 1, 1, none⟩ = some (.int .i64 0) := zq47
 have y2 : w2.cell? ⟨w.heap.size + 1, 2, none⟩ = some (.int .i64 0) := zq47
 have y3 : w2.cell? ⟨w.heap.size + 1, 3, none⟩ = some (.int .i64 0) := zq47
 have y4 : w2.cell? ⟨w.heap.size + 1, 4, none⟩ = some (.int .i64 0) := zq47
 have y5 : w2.cell? ⟨w.heap.size + 1, 5, none⟩ = some (.int .i64 0) := zq47
 have g1 : ∀ o, w2.frozen? ⟨w.heap.size + 1, o, none⟩ = false := fun o => (hB.frozen (by simp)).trans (by simp)
 have x0 : w2.cell? ⟨w1.heap.size, 0, none⟩ = some (.int .i64 a) := zq48
 have x1 : w2.cell? ⟨w1.heap.size, 1, none⟩ = some (.int .i64 ((regOf s 68 W : Int) + regOf s 66 W + toldRd r)) := zq48
 have x2 : w2.cell? ⟨w1.heap.size, 2, none⟩ = some (.int .i64 ((regOf s 83 W : Int) + regOf s 66 W + toldRs1 r)) := zq48
 have x3 : w2.cell? ⟨w1.heap.size, 3, none⟩ = some (.int .i64 (regOf s 84 W)) := zq48
 have x4 : w2.cell? ⟨w1.heap.size, 4, none⟩ = some (.int .i64 (immOf s (hasB r 1) W)) := zq48
 have x5 : w2.cell? ⟨w1.heap.size, 5, none⟩ = some (.int .i64 ((s.size : Int) / 8)) := zq48
 clear hb2 bb hb1' hB hc hfz hc2 hfz2
 go_wp2
 exact bodyPost_ret (v := .tuple #[.agg #[.int .i64 a, .int .i64 ((regOf s 68 W : Int) + regOf s 66 W + toldRd r), .int .i64 ((regOf s 83 W : Int) + regOf s 66 W + toldRs1 r), .int .i64 (regOf s 84 W), .int .i64 (immOf s (hasB r 1) W), .int .i64 ((s.size : Int) / 8)], .bool true]) zq514 rfl ⟨rfl, below6 b2.out _ (by simp) _ _ _ _ _ _⟩
theorem i_meaning (t : Int × ByteArray × Int) (hs : t.2.1.size <= 32) (W : Nat) (hW : W < 4294967296) (w : World) :
 Calls prog 139 #[.agg #[.int .i64 t.1, .string t.2.1, .int .i64 t.2.2], .int .i64 W] w fun e w' =>
  e = .returned (.tuple #[insV (if rowFits t W = true then rowIns t W else ins0), .bool (rowFits t W)]) /\ Below w.heap.size w w' := by
 cases hf : Pic.fits (Pic.rv t.2.1.data.toList t.2.1.size) W
 . have e : rowFits t W = false := by simp [rowFits, hf]
   rw [e]
   exact i_meaning_no1 t.1 t.2.1 hs t.2.2 W hW w hf
 . cases hro : rulesOut t.2.2 (rowIns t W).rd (rowIns t W).rs1 (rowIns t W).rs2 (rowIns t W).im
   . have e : rowFits t W = true := by simp [rowFits, hf, hro]
     rw [e]
     exact i_meaning_yes t.1 t.2.1 hs t.2.2 W hW w hf hro
   . have e : rowFits t W = false := by simp [rowFits, hf, hro]
     rw [e]
     exact i_meaning_no2 t.1 t.2.1 hs t.2.2 W hW w hf hro
def sizeOf (w : Int) : Int := if w < 0 \/ 4294967295 < w then 0 else if w % 4 = 3 then 4 else if w <= 65535 then 2 else 0
theorem i_sizeOf (x : Int) (w : World) :
 CS 136 #[.int .i64 x] (.int .i64 (sizeOf x)) w := by
 have h3 := and_three x
 by_cases c1 : x < 0
 . exact zq256
 by_cases c2 : 4294967295 < x
 . exact zq256
 by_cases c3 : x % 4 = 3
 . have c3' : (x % 4 == 3) = true := by rw [beq_iff_eq]; exact c3
   have C3 : Hid (x % 4 = 3) := c3
   clear c3
   go_enter func136, ntmps136
   go_wp2
   go_ret
   exact ⟨congrArg (fun z => Ending.returned (Value.int .i64 z)) (by unfold sizeOf; rw [if_neg (by omega), if_pos C3.out]), rfl⟩
 have c3' : (x % 4 == 3) = false := by rw [beq_eq_false_iff_ne]; exact c3
 by_cases c4 : x <= 65535
 . go_enter func136, ntmps136
   go_wp2
   go_ret
   exact ⟨congrArg (fun z => Ending.returned (Value.int .i64 z)) (by unfold sizeOf; rw [if_neg (by omega), if_neg c3, if_pos c4]), rfl⟩
 . go_enter func136, ntmps136
   go_wp2
   go_ret
   exact ⟨congrArg (fun z => Ending.returned (Value.int .i64 z)) (by unfold sizeOf; rw [if_neg (by omega), if_neg c3, if_neg (by omega)]), rfl⟩
def rowCount (n : Int) : Int := bif n == 4 then 70 else bif n == 2 then 26 else 0
theorem i_rowCount (x : Int) (w : World) :
 CS 137 #[.int .i64 x] (.int .i64 (rowCount x)) w := by
 unfold rowCount
 cases h4 : (x == 4)
 . cases h2 : (x == 2)
   . exact zq257
   . exact zq257
 . exact zq257
def sameB (a b : Ins) : Bool := a.op == b.op && a.rd == b.rd && a.rs1 == b.rs1 && a.rs2 == b.rs2 && a.im == b.im && a.ln == b.ln
theorem i_same (a b : Ins) (w : World) :
 CB 141 #[insV a, insV b] (.bool (sameB a b)) w := by
 unfold sameB insV
 cases h0 : (a.op == b.op)
 . exact zq258
 cases h1 : (a.rd == b.rd)
 . exact zq258
 cases h2 : (a.rs1 == b.rs1)
 . exact zq258
 cases h3 : (a.rs2 == b.rs2)
 . exact zq258
 cases h4 : (a.im == b.im)
 . exact zq258
 cases h5 : (a.ln == b.ln)
 . exact zq258
 exact zq258
def scan (f : Nat -> Option Ins) : Nat -> Nat -> Option Ins
 | _, 0 => none
 | n, m + 1 => match f n with
  | some i => some i
  | none => scan f (n + 1) m
def rowMeans (size : Int) (W : Nat) (n : Nat) : Option Ins := if rowFits (rowAt size n) W = true then some (rowIns (rowAt size n) W) else none
def decodeD (x : Int) : Ins × Int :=
 if sizeOf x = 0 then (ins0, 2) else
 match scan (rowMeans (sizeOf x) x.toNat) 1 (rowCount (sizeOf x)).toNat with
 | some i => (i, 0)
 | none => (⟨0, 0, 0, 0, 0, sizeOf x⟩, 0)
theorem scan_step (f : Nat -> Option Ins) (n m : Nat) : scan f n (m + 1) = match f n with | some i => some i | none => scan f (n + 1) m := rfl
theorem long_small : ((List.range 71).all fun n => decide ((Tab.longRow n).2.1.size <= 32)) = true := by decide +kernel
theorem short_small : ((List.range 27).all fun n => decide ((Tab.shortRow n).2.1.size <= 32)) = true := by decide +kernel
theorem row_small (size : Int) (h : size = 4 \/ size = 2) (n : Nat) (hn : (n : Int) <= rowCount size) : (rowAt size n).2.1.size <= 32 := by
 rcases h with rfl | rfl
 . have h1 := List.all_eq_true.1 long_small n (by simp [rowCount] at hn; simp; omega)
   simpa [rowAt] using h1
 . have h1 := List.all_eq_true.1 short_small n (by simp [rowCount] at hn; simp; omega)
   simpa [rowAt] using h1
theorem size_ways (x : Int) : sizeOf x = 0 \/ ((sizeOf x = 4 \/ sizeOf x = 2) /\ 0 <= x /\ x < 4294967296) := by
 unfold sizeOf
 split
 . exact .inl rfl
 . split
   . exact .inr ⟨.inl rfl, by omega, by omega⟩
   . split
     . exact .inr ⟨.inr rfl, by omega, by omega⟩
     . exact .inl rfl
theorem i_Decode_no (x : Int) (h : sizeOf x = 0) (w : World) :
 CB 86 #[.int .i64 x] (.tuple #[insV ins0, .int .i64 2]) w := by
 unfold insV ins0
 go_enter func86, ntmps86
 go_wp2_with fail
 refine (i_sizeOf x _).mono ?_
 rintro e w1 ⟨rfl, rfl⟩
 rw [h]
 go_wp2
 exact bodyPost_ret (v := .tuple #[.agg #[.int .i64 0, .int .i64 0, .int .i64 0, .int .i64 0, .int .i64 0, .int .i64 0], .int .i64 2]) (by simp [results, results86, go_sem]) rfl ⟨rfl, (Below.refl _ _).alloc (Nat.le_refl _) _⟩
structure Zed (w wr : World) : Prop where
 below : Below w.heap.size w wr
 lt : w.heap.size < wr.heap.size
 c0 : wr.cell? ⟨w.heap.size, 0, none⟩ = some (.int .i64 0)
 c1 : wr.cell? ⟨w.heap.size, 1, none⟩ = some (.int .i64 0)
 c2 : wr.cell? ⟨w.heap.size, 2, none⟩ = some (.int .i64 0)
 c3 : wr.cell? ⟨w.heap.size, 3, none⟩ = some (.int .i64 0)
 c4 : wr.cell? ⟨w.heap.size, 4, none⟩ = some (.int .i64 0)
 c5 : wr.cell? ⟨w.heap.size, 5, none⟩ = some (.int .i64 0)
 fro : ∀ o, wr.frozen? ⟨w.heap.size, o, none⟩ = false
theorem Zed.start (w : World) (t : TypeId) : Zed w (w.alloc (.cells #[.int .i64 0, .int .i64 0, .int .i64 0, .int .i64 0, .int .i64 0, .int .i64 0] t)) :=
 ⟨(Below.refl _ _).alloc (Nat.le_refl _) _, by simp, by simp, by simp, by simp, by simp, by simp, by simp, by intro o; simp⟩
theorem Zed.more {w wr w' : World} (h : Zed w wr) (hb : Below wr.heap.size wr w') : Zed w w' :=
 ⟨h.below.trans (hb.mono (Nat.le_of_lt h.lt)), Nat.lt_of_lt_of_le h.lt hb.size, (hb.cell (p := ⟨w.heap.size, 0, none⟩) h.lt).trans h.c0, (hb.cell (p := ⟨w.heap.size, 1, none⟩) h.lt).trans h.c1,
  (hb.cell (p := ⟨w.heap.size, 2, none⟩) h.lt).trans h.c2, (hb.cell (p := ⟨w.heap.size, 3, none⟩) h.lt).trans h.c3, (hb.cell (p := ⟨w.heap.size, 4, none⟩) h.lt).trans h.c4,
  (hb.cell (p := ⟨w.heap.size, 5, none⟩) h.lt).trans h.c5, fun o => (hb.frozen (p := ⟨w.heap.size, o, none⟩) h.lt).trans (h.fro o)⟩
theorem Zed.alloc {w wr : World} (h : Zed w wr) (o : Obj) : Zed w (wr.alloc o) := h.more ((Below.refl _ _).alloc (Nat.le_refl _) _)
theorem sc_hit {size : Int} {W n : Nat} {m T : Option Ins} {t : Int × ByteArray × Int} (ht : Hid (t = rowAt size n)) (hf : rowFits t W = true)
 (h : Hid ((match rowMeans size W n with | some i => some i | none => m) = T)) : T = some (rowIns t W) := by
 rw [<- h.out, rowMeans, <- ht.out, if_pos hf]
theorem sc_miss {size : Int} {W n : Nat} {m T : Option Ins} {t : Int × ByteArray × Int} (ht : Hid (t = rowAt size n)) (hf : rowFits t W = false)
 (h : Hid ((match rowMeans size W n with | some i => some i | none => m) = T)) : Hid (m = T) := by
 show m = T
 rw [<- h.out, rowMeans, <- ht.out, if_neg (by rw [hf]; decide)]
theorem i_Decode_yes (W : Nat) (hW : W < 4294967296) (size : Int) (hsz : size = 4 \/ size = 2) (hsize : Hid (sizeOf (W : Int) = size)) (w : World) :
 Calls prog 86 #[.int .i64 W] w fun e w' => (∃ i, e = .returned (.tuple #[insV i, .int .i64 0]) /\ Hid (i = (scan (rowMeans size W) 1 (rowCount size).toNat).getD ⟨0, 0, 0, 0, 0, size⟩)) /\ Below w.heap.size w w' := by
 have hn0 : (size == 0) = false := by rcases hsz with rfl | rfl <;> rfl
 obtain ⟨C, hC⟩ : ∃ C : Nat, (C : Int) = rowCount size := by rcases hsz with rfl | rfl; exact ⟨70, rfl⟩; exact ⟨26, rfl⟩
 have hC70 : C <= 70 := by rcases hsz with rfl | rfl <;> simp [rowCount] at hC <;> omega
 have hCC : Hid ((C : Int) = rowCount size) := hC
 rw [<- hC, Int.toNat_natCast]
 clear hC
 go_enter func86, ntmps86
 go_wp2_with fail
 refine (i_sizeOf W _).mono ?_
 rintro e w1 ⟨rfl, rfl⟩
 rw [hsize.out]
 go_wp2_with fail
 refine (i_rowCount size _).mono ?_
 rintro e w1 ⟨rfl, rfl⟩
 rw [<- hCC.out]
 go_wp2_with fail
 go_loopw [6] (fun k wr => ∃ n : Nat, 1 <= n /\ n <= C + 1 /\ k = .int .i64 n /\ Zed w wr /\ Hid (scan (rowMeans size W) n (C + 1 - n) = scan (rowMeans size W) 1 C)) (fun k _ => C + 1 - (intOf k).toNat)
 case atStart => exact ⟨1, by omega, by omega, rfl, Zed.start _ _, rfl⟩
 case round =>
  obtain ⟨n, hn1, hn2, rfl, hz, hsc⟩ := hrel
  by_cases hnC : n <= C
  . have hbd := row_small size hsz n (by rw [<- hCC.out]; omega)
    have hstep := scan_step (rowMeans size W) n (C - n)
    rw [show C - n + 1 = C + 1 - n by omega] at hstep
    rw [hstep] at hsc
    clear hstep
    go_wp2_with fail
    refine (i_rowAt size n _).mono ?_
    rintro e w1 ⟨rfl, hb1⟩
    obtain ⟨t, ht⟩ := zn1 (rowAt size n)
    rw [<- ht] at hbd |-
    have HT : Hid (t = rowAt size n) := ht
    clear ht
    replace hz := hz.more hb1
    clear hb1
    simp only [rowV]
    go_wp2_with fail
    refine (i_meaning t hbd W hW _).mono ?_
    rintro e w2 ⟨rfl, hb2⟩
    replace hz := (hz.alloc _).more hb2
    clear hb2
    have z0 := hz.c0
    have z1 := hz.c1
    have z2 := hz.c2
    have z3 := hz.c3
    have z4 := hz.c4
    have z5 := hz.c5
    have zf := hz.fro
    have hlt := hz.lt
    cases hf : rowFits t W
    . have hm := sc_miss HT hf hsc
      clear hsc
      simp only [insV, ins0]
      go_wp2
      go_roundw
      case rel => exact ⟨n + 1, by omega, by omega, by go_num, hz.alloc _, by rw [show C + 1 - (n + 1) = C - n by omega]; exact hm⟩
      case measure => exact zq191
    . have hm := hide (sc_hit HT hf hsc)
      clear hsc
      obtain ⟨i, hi⟩ := zn1 (rowIns t W)
      have HI := hide hi
      simp only [if_true]
      rw [<- hi]
      clear hi
      simp only [insV]
      go_wp2
      refine bodyPost_ret (v := .tuple #[.agg #[.int .i64 i.op, .int .i64 i.rd, .int .i64 i.rs1, .int .i64 i.rs2, .int .i64 i.im, .int .i64 i.ln], .int .i64 0]) (by simp [results, results86, go_sem, z0, z1, z2, z3, z4, z5, hlt]) rfl ⟨⟨i, rfl, ?_⟩, ?_⟩
      . show i = _
        rw [hm.out, HI.out]; rfl
      . exact (below6 hz.below _ (Nat.le_refl _) _ _ _ _ _ _).alloc (by simp; omega) _
  . have h0 : C + 1 - n = 0 := by omega
    rw [h0] at hsc
    have z0 := hz.c0
    have z1 := hz.c1
    have z2 := hz.c2
    have z3 := hz.c3
    have z4 := hz.c4
    have z5 := hz.c5
    have zf := hz.fro
    have hlt := hz.lt
    go_wp2
    refine bodyPost_ret (v := .tuple #[.agg #[.int .i64 0, .int .i64 0, .int .i64 0, .int .i64 0, .int .i64 0, .int .i64 size], .int .i64 0]) (by simp [results, results86, go_sem, z0, z1, z2, z3, z4, z5]) rfl ⟨⟨⟨0, 0, 0, 0, 0, size⟩, rfl, ?_⟩, ?_⟩
    . rw [<- hsc.out]; rfl
    . exact below6 hz.below _ (Nat.le_refl _) _ _ _ _ _ _
theorem i_Decode (x : Int) (w : World) :
 CB 86 #[.int .i64 x] (.tuple #[insV (decodeD x).1, .int .i64 (decodeD x).2]) w := by
 rcases size_ways x with h | ⟨h, h0, h1⟩
 . have e : decodeD x = (ins0, 2) := by unfold decodeD; rw [if_pos h]
   rw [e]
   exact i_Decode_no x h w
 . obtain ⟨W, rfl⟩ := Int.eq_ofNat_of_zero_le h0
   have hne : ¬ sizeOf (W : Int) = 0 := by rcases h with h | h <;> rw [h] <;> decide
   refine (i_Decode_yes W (by omega) _ h rfl w).mono ?_
   rintro e w' ⟨⟨i, rfl, hi⟩, hb⟩
   have hD : decodeD (W : Int) = (i, 0) := by
    unfold decodeD
    rw [if_neg hne, Int.toNat_natCast]
    have := hi.out
    cases hs : scan (rowMeans (sizeOf (W : Int)) W) 1 (rowCount (sizeOf (W : Int))).toNat with
    | none => rw [hs] at this; rw [this]; rfl
    | some j => rw [hs] at this; rw [this]; rfl
   rw [hD]
   exact ⟨rfl, hb⟩
def rowDraw (t : Int × ByteArray × Int) (i : Ins) : Nat := Pic.draw (Pic.rv t.2.1.data.toList t.2.1.size) i.rd i.rs1 i.rs2 i.im
def rowWord (i : Ins) (n : Nat) : Option Nat :=
 if (rowAt i.ln n).1 = i.op /\ rowFits (rowAt i.ln n) (rowDraw (rowAt i.ln n) i) = true /\ sameB (rowIns (rowAt i.ln n) (rowDraw (rowAt i.ln n) i)) i = true then some (rowDraw (rowAt i.ln n) i) else none
def better (st x : Option Nat) : Option Nat :=
 match x with
 | none => st
 | some b => match st with
  | none => some b
  | some a => if b < a then some b else some a
def least (i : Ins) : Option Nat -> Nat -> Nat -> Option Nat
 | st, _, 0 => st
 | st, n, m + 1 => least i (better st (rowWord i n)) (n + 1) m
theorem least_step (i : Ins) (st : Option Nat) (n m : Nat) : least i st n (m + 1) = least i (better st (rowWord i n)) (n + 1) m := rfl
def encodeD (i : Ins) : Int × Int :=
 match least i none 1 (rowCount i.ln).toNat with
 | some b => (b, 0)
 | none => (0, 3)
structure Ized (i : Ins) (w wr : World) : Prop where
 below : Below w.heap.size w wr
 lt : w.heap.size < wr.heap.size
 c0 : wr.cell? ⟨w.heap.size, 0, none⟩ = some (.int .i64 i.op)
 c1 : wr.cell? ⟨w.heap.size, 1, none⟩ = some (.int .i64 i.rd)
 c2 : wr.cell? ⟨w.heap.size, 2, none⟩ = some (.int .i64 i.rs1)
 c3 : wr.cell? ⟨w.heap.size, 3, none⟩ = some (.int .i64 i.rs2)
 c4 : wr.cell? ⟨w.heap.size, 4, none⟩ = some (.int .i64 i.im)
 c5 : wr.cell? ⟨w.heap.size, 5, none⟩ = some (.int .i64 i.ln)
theorem Ized.start (i : Ins) (w : World) (t : TypeId) : Ized i w (w.alloc (.cells #[.int .i64 i.op, .int .i64 i.rd, .int .i64 i.rs1, .int .i64 i.rs2, .int .i64 i.im, .int .i64 i.ln] t)) :=
 ⟨(Below.refl _ _).alloc (Nat.le_refl _) _, by simp, by simp, by simp, by simp, by simp, by simp, by simp⟩
theorem Ized.more {i : Ins} {w wr w' : World} (h : Ized i w wr) (hb : Below wr.heap.size wr w') : Ized i w w' :=
 ⟨h.below.trans (hb.mono (Nat.le_of_lt h.lt)), Nat.lt_of_lt_of_le h.lt hb.size, (hb.cell (p := ⟨w.heap.size, 0, none⟩) h.lt).trans h.c0, (hb.cell (p := ⟨w.heap.size, 1, none⟩) h.lt).trans h.c1,
  (hb.cell (p := ⟨w.heap.size, 2, none⟩) h.lt).trans h.c2, (hb.cell (p := ⟨w.heap.size, 3, none⟩) h.lt).trans h.c3, (hb.cell (p := ⟨w.heap.size, 4, none⟩) h.lt).trans h.c4,
  (hb.cell (p := ⟨w.heap.size, 5, none⟩) h.lt).trans h.c5⟩
theorem Ized.alloc {i : Ins} {w wr : World} (h : Ized i w wr) (o : Obj) : Ized i w (wr.alloc o) := h.more ((Below.refl _ _).alloc (Nat.le_refl _) _)
theorem draw_bd (t : Int × ByteArray × Int) (hs : t.2.1.size <= 32) (i : Ins) : rowDraw t i < 4294967296 := by
 have h := Pic.draw_lt (Pic.rv t.2.1.data.toList t.2.1.size) i.rd i.rs1 i.rs2 i.im
 rw [Pic.rv_length _ _ (by simp)] at h
 have c : 2 ^ t.2.1.size <= 2 ^ 32 := Nat.pow_le_pow_right (by decide) hs
 have d : (2 : Nat) ^ 32 = 4294967296 := by decide
 unfold rowDraw
 omega
theorem ww_op {i : Ins} {n : Nat} {t : Int × ByteArray × Int} (ht : Hid (t = rowAt i.ln n)) (h : ¬ t.1 = i.op) : rowWord i n = none := by
 unfold rowWord; rw [<- ht.out, if_neg (fun hh => h hh.1)]
theorem ww_fit {i : Ins} {n : Nat} {t : Int × ByteArray × Int} (ht : Hid (t = rowAt i.ln n)) (h : rowFits t (rowDraw t i) = false) : rowWord i n = none := by
 unfold rowWord; rw [<- ht.out, if_neg (fun hh => by rw [h] at hh; cases hh.2.1)]
theorem ww_same {i : Ins} {n : Nat} {t : Int × ByteArray × Int} (ht : Hid (t = rowAt i.ln n)) (h : sameB (rowIns t (rowDraw t i)) i = false) : rowWord i n = none := by
 unfold rowWord; rw [<- ht.out, if_neg (fun hh => by rw [h] at hh; cases hh.2.2)]
theorem ww_yes {i : Ins} {n : Nat} {t : Int × ByteArray × Int} (ht : Hid (t = rowAt i.ln n)) (h1 : t.1 = i.op) (h2 : rowFits t (rowDraw t i) = true) (h3 : sameB (rowIns t (rowDraw t i)) i = true) : rowWord i n = some (rowDraw t i) := by
 unfold rowWord; rw [<- ht.out, if_pos ⟨h1, h2, h3⟩]
theorem i_Encode' (i : Ins) (C : Nat) (hC70 : C <= 70) (hCC : Hid ((C : Int) = rowCount i.ln)) (w : World) :
 Calls prog 87 #[insV i] w fun e w' => (∃ st : Option Nat, Hid (st = least i none 1 C) /\ e = .returned (.tuple #[.int .i64 (st.getD 0 : Nat), .int .i64 (bif st.isSome then 0 else 3)])) /\ Below w.heap.size w w' := by
 unfold insV
 go_enter func87, ntmps87
 go_wp2_with fail
 refine (i_rowCount i.ln _).mono ?_
 rintro e w1 ⟨rfl, rfl⟩
 rw [<- hCC.out]
 go_wp2_with fail
 go_loopw [4, 5, 7] (fun l f k wr => ∃ (n : Nat) (st : Option Nat), 1 <= n /\ n <= C + 1 /\ k = .int .i64 n /\ l = .int .i64 (st.getD 0 : Nat) /\ f = .bool st.isSome /\ Ized i w wr /\ Hid (least i st n (C + 1 - n) = least i none 1 C)) (fun _ _ k _ => C + 1 - (intOf k).toNat)
 case atStart => exact ⟨1, none, by omega, by omega, rfl, rfl, rfl, Ized.start _ _ _, rfl⟩
 case round =>
  obtain ⟨n, st, hn1, hn2, rfl, rfl, rfl, hz, hsc⟩ := hrel
  by_cases hnC : n <= C
  . have hsz : i.ln = 4 \/ i.ln = 2 := by
     have h := hCC.out
     unfold rowCount at h
     cases h4 : (i.ln == 4)
     . cases h2 : (i.ln == 2)
       . rw [h4, h2] at h; simp at h; omega
       . exact .inr (beq_iff_eq.1 h2)
     . exact .inl (beq_iff_eq.1 h4)
    have hbd := row_small i.ln hsz n (by rw [<- hCC.out]; omega)
    have HSZ := hide hsz
    clear hsz
    have hstep := least_step i st n (C - n)
    rw [show C - n + 1 = C + 1 - n by omega] at hstep
    rw [hstep] at hsc
    clear hstep
    have z5 := hz.c5
    go_wp2_with fail
    refine (i_rowAt i.ln n _).mono ?_
    rintro e w1 ⟨rfl, hb1⟩
    obtain ⟨t, ht⟩ := zn1 (rowAt i.ln n)
    rw [<- ht] at hbd |-
    have HT : Hid (t = rowAt i.ln n) := ht
    clear ht z5
    replace hz := hz.more hb1
    clear hb1
    have z0 := hz.c0
    have z1 := hz.c1
    have z2 := hz.c2
    have z3 := hz.c3
    have z4 := hz.c4
    have z5 := hz.c5
    have hlt := hz.lt
    simp only [rowV]
    by_cases hop : t.1 = i.op
    . have hop' : (t.1 != i.op) = false := by simp [hop]
      have HOP := hide hop
      clear hop
      go_wp2_with fail
      refine (i_draw t.2.1 hbd i.op i.rd i.rs1 i.rs2 i.im i.ln _).mono ?_
      rintro e w2 ⟨rfl, hb2⟩
      have hb2' := hide hb2
      have x0 := (hb2.cell (p := ⟨w1.heap.size, 0, none⟩) (by simp)).trans (by simp : _ = some (.int .i64 t.1))
      have x1 := (hb2.cell (p := ⟨w1.heap.size, 1, none⟩) (by simp)).trans (by simp : _ = some (.string t.2.1))
      have x2 := (hb2.cell (p := ⟨w1.heap.size, 2, none⟩) (by simp)).trans (by simp : _ = some (.int .i64 t.2.2))
      clear z0 z1 z2 z3 z4 z5 hlt
      replace hz := (hz.alloc _).more hb2
      clear hb2 hb2'
      have hW := draw_bd t hbd i
      obtain ⟨W, hw⟩ := zn1 (rowDraw t i)
      have e1 : Pic.draw (Pic.rv t.2.1.data.toList t.2.1.size) i.rd i.rs1 i.rs2 i.im = W := hw.symm
      rw [e1]
      rw [<- hw] at hW
      have HW := hide hw
      clear hw e1
      go_wp2_with fail
      refine (i_meaning t hbd W hW _).mono ?_
      rintro e w3 ⟨rfl, hb3⟩
      replace hz := hz.more hb3
      clear hb3 x0 x1 x2
      have z0 := hz.c0
      have z1 := hz.c1
      have z2 := hz.c2
      have z3 := hz.c3
      have z4 := hz.c4
      have z5 := hz.c5
      have hlt := hz.lt
      cases hf : rowFits t W
      . rw [ww_fit HT (by rw [<- HW.out]; exact hf)] at hsc
        simp only [insV, ins0]
        exact zq259
      . obtain ⟨j, hj⟩ := zn1 (rowIns t W)
        simp only [if_true]
        rw [<- hj]
        have HJ := hide hj
        clear hj
        simp only [insV]
        go_wp2_with fail
        refine (i_same j i _).mono ?_
        rintro e w4 ⟨rfl, hb4⟩
        replace hz := (hz.alloc _).more hb4
        clear hb4 z0 z1 z2 z3 z4 z5 hlt
        cases hs : sameB j i
        . rw [ww_same HT (by rw [<- HW.out, <- HJ.out]; exact hs)] at hsc
          go_wp2
          go_roundw
          case rel => exact ⟨n + 1, st, by omega, by omega, by go_num, rfl, rfl, hz, by rw [show C + 1 - (n + 1) = C - n by omega]; exact hsc⟩
          case measure => exact zq191
        . rw [ww_yes HT HOP.out (by rw [<- HW.out]; exact hf) (by rw [<- HW.out, <- HJ.out]; exact hs), <- HW.out] at hsc
          cases st with
          | none =>
           go_wp2
           go_roundw
           case rel => exact zq260
           case measure => exact zq191
          | some a =>
           by_cases hla : W < a
           . simp only [better, if_pos hla] at hsc
             have hla' : decide ((W : Int) < (a : Int)) = true := by simp; omega
             go_wp2
             go_roundw
             case rel => exact zq260
             case measure => exact zq191
           . simp only [better, if_neg hla] at hsc
             have hla' : decide ((W : Int) < (a : Int)) = false := by simp; omega
             go_wp2
             go_roundw
             case rel => exact ⟨n + 1, some a, by omega, by omega, by go_num, rfl, rfl, hz, by rw [show C + 1 - (n + 1) = C - n by omega]; exact hsc⟩
             case measure => exact zq191
    . have hop' : (t.1 != i.op) = true := by simp [hop]
      rw [ww_op HT hop] at hsc
      clear hop
      exact zq259
  . have h0 : C + 1 - n = 0 := by omega
    rw [h0] at hsc
    cases st with
    | none =>
     go_wp2
     go_ret2
     exact ⟨⟨none, hsc, rfl⟩, hz.below⟩
    | some a =>
     go_wp2
     go_ret2
     exact ⟨⟨some a, hsc, rfl⟩, hz.below⟩
section
attribute [local go_sem ↓] Go.wp_at_zero Go.wp_at_succ
theorem Kept.drewN {F : List Nat} {a w : World} (h : Kept F a w) (n : Nat) : Kept F a (w.drewN n) := ⟨h.os, h.tape, h.output, h.size, h.block⟩
theorem XAt.drewN {w mb rb X} (h : XAt w mb rb X) (n : Nat) : XAt (w.drewN n) mb rb X := h.kept ((Kept.refl [] w).drewN n)
structure NI where
 op : Int
 rd : Nat
 rs1 : Nat
 rs2 : Nat
 im : Int
 ln : Nat
def niV (i : NI) : Value := .agg #[.int .i64 i.op, .int .i64 i.rd, .int .i64 i.rs1, .int .i64 i.rs2, .int .i64 i.im, .int .i64 i.ln]
def niC (i : NI) : Obj := .cells #[.int .i64 i.op, .int .i64 i.rd, .int .i64 i.rs1, .int .i64 i.rs2, .int .i64 i.im, .int .i64 i.ln] 60
structure NIOk (i : NI) : Prop where
 rd : i.rd < 32
 rs1 : i.rs1 < 32
 rs2 : i.rs2 < 32
 im0 : -4294967296 <= i.im
 im1 : i.im < 4294967296
 ln : i.ln = 2 \/ i.ln = 4
def wrcB (i : NI) : Bool := decide (i.op = 61 \/ i.op = 64 \/ i.rs1 ≠ 0)
theorem x_writesCsr (i : NI) (w : World) :
 Calls prog 134 #[niV i] w fun o w' => o = .returned (.bool (wrcB i)) /\ w' = w.alloc (niC i) := by
 obtain ⟨op, rd, rs1, rs2, im, ln⟩ := i
 obtain ⟨T, hT⟩ := zn1 (wrcB ⟨op, rd, rs1, rs2, im, ln⟩)
 rw [<- hT]
 unfold wrcB at hT
 dsimp only at hT
 unfold niV niC
 by_cases h1 : op = 61
 . subst h1
   exact zq261
 have q1 : (op == 61) = false := by simp [h1]
 by_cases h2 : op = 64
 . subst h2
   exact zq261
 have q2 : (op == 64) = false := by simp [h2]
 by_cases h3 : rs1 = 0
 . subst h3
   have HT : Hid (T = false) := by rw [hT]; show _ = _; simp [h1, h2]
   clear hT h1 h2
   exact zq262
 . have HT : Hid (T = true) := by rw [hT]; show _ = _; simp [h3]
   have q3 : ((rs1 : Int) != 0) = true := by simp; omega
   have q3' : (rs1 != 0) = true := by simp; omega
   clear hT h1 h2 h3
   exact zq262
def cwrD (i : NI) : Int := if 61 <= i.op /\ i.op <= 66 /\ wrcB i = true then (if i.im = 2816 \/ i.im = 2944 then 1 else if i.im = 2818 \/ i.im = 2946 then 4 else 0) else 0
theorem x_countersWritten (i : NI) (w : World) :
 CK 84 #[niV i] (.int .i64 (cwrD i)) w := by
 have WC := fun W => hide1 (x_writesCsr i W)
 obtain ⟨T, hT⟩ := zn1 (cwrD i)
 rw [<- hT]
 unfold cwrD at hT
 obtain ⟨b, hb⟩ := zn1 (wrcB i)
 simp only [<- hb] at WC hT
 clear hb
 unfold niV niC at WC
 unfold niV
 obtain ⟨op, rd, rs1, rs2, im, ln⟩ := i
 dsimp only at WC hT |-
 have HT := hide1 hT
 clear hT
 by_cases h1 : op < 61
 . have q : decide (op < 61) = true := by simp [h1]
   have HT2 : Hid (T = 0) := by rw [HT.out]; show _ = _; rw [if_neg (by omega)]
   clear HT h1
   exact zq263
 have q1 : decide (op < 61) = false := by simp; omega
 by_cases h2 : 66 < op
 . have q : decide (66 < op) = true := by simp [h2]
   have HT2 : Hid (T = 0) := by rw [HT.out]; show _ = _; rw [if_neg (by omega)]
   clear HT h1 h2
   exact zq263
 have q2 : decide (66 < op) = false := by simp; omega
 cases b
 . have HT2 : Hid (T = 0) := by rw [HT.out]; show _ = _; rw [if_neg (by simp)]
   clear HT h1 h2
   go_enter func84, ntmps84
   go_wp2_with (go_at_call 134; refine (WC _).out.mono ?_; rintro o w2 ⟨rfl, rfl⟩)
   go_ret
   exact ⟨ret_intE (by rw [HT2.out]), ((Kept.refl _ _).alloc _).alloc _⟩
 . have HT2 : Hid (T = (if im = 2816 \/ im = 2944 then 1 else if im = 2818 \/ im = 2946 then 4 else 0)) := by rw [HT.out]; show _ = _; rw [if_pos ⟨by omega, by omega, rfl⟩]
   clear HT h1 h2
   go_enter func84, ntmps84
   go_wp2_with (go_at_call 134; refine (WC _).out.mono ?_; rintro o w2 ⟨rfl, rfl⟩)
   all_goals (go_ret; refine ⟨ret_intE ?_, ((Kept.refl _ _).alloc _).alloc _⟩; rw [HT2.out]; simp_all)
def behD (pc : Nat) (i : NI) : Nat := (pc + i.ln) % 4294967296
theorem x_behind (mb rb : Nat) (X : XS) (hpc : X.pc < 4294967296) (i : NI) (hi : NIOk i) (w) (hw : Hid (XAt w mb rb X)) :
 CK 194 #[.pointer (some ⟨mb, 0, none⟩), niV i] (.int .i64 (behD X.pc i)) w := by
 have hlt := hw.out.lt
 have hlt' : ¬ mb = w.heap.size := by omega
 have c33 := hw.out.c33
 have hln := hi.ln
 have WD : ∀ W, CS 135 #[.int .i64 ((X.pc : Int) + (i.ln : Int))] (.int .i64 (behD X.pc i)) W := fun W => by have := x_word ((X.pc : Int) + (i.ln : Int)) W; rw [show wordN ((X.pc : Int) + (i.ln : Int)) = behD X.pc i by unfold wordN behD; omega] at this; exact this
 have wr : IntKind.i64.wrap ((X.pc : Int) + (i.ln : Int)) = (X.pc : Int) + (i.ln : Int) := zq9
 obtain ⟨r, hr⟩ := zn1 (behD X.pc i)
 simp only [<- hr] at WD |-
 have HW := hide1 WD
 unfold niV
 clear hr WD hi hln hw
 go_enter func194, ntmps194
 go_upto_region 1 with fail
 go_quiet ((go_at_call 135; exact Calls.quiet_of_same (HW.out _)))
 exact zq264
theorem x_branches (mb rb : Nat) (X : XS) (hxr : ∀ i, X.x.getD i 0 < 4294967296) (i : NI) (hi : NIOk i) (hop : 5 <= i.op /\ i.op <= 10) (w) (hw : Hid (XAt w mb rb X)) :
 CK 193 #[.pointer (some ⟨mb, 0, none⟩), niV i] (.bool (holds i.op (X.x.getD i.rs1 0) (X.x.getD i.rs2 0))) w := by
 have hwa : Hid (XAt (w.alloc (niC i)) mb rb X) := zq10
 have ha := hxr i.rs1
 have hb := hxr i.rs2
 have A1 := hide1 (fun W h => x_register mb rb X i.rs1 hi.rs1 W h)
 have A2 := hide1 (fun W h => x_register mb rb X i.rs2 hi.rs2 W h)
 obtain ⟨a, hae⟩ := zn1 (X.x.getD i.rs1 0)
 obtain ⟨b, hbe⟩ := zn1 (X.x.getD i.rs2 0)
 simp only [<- hae] at ha A1 |-
 simp only [<- hbe] at hb A2 |-
 unfold niC at hwa
 unfold niV
 obtain ⟨op, rd, rs1, rs2, im, ln⟩ := i
 dsimp only at hop hwa A1 A2 |-
 clear hae hbe hi hw
 have h : op = 5 \/ op = 6 \/ op = 7 \/ op = 8 \/ op = 9 \/ op = 10 := by omega
 have s1 := hide1 (x_signed a ha)
 have s2 := hide1 (x_signed b hb)
 clear hop
 rcases h with rfl | rfl | rfl | rfl | rfl | rfl
 all_goals
  go_enter func193, ntmps193
  go_wp2_with fail
  refine (A1.out _ hwa).mono ?_
  rintro o w1 ⟨rfl, rfl⟩
  go_wp2_with fail
  refine (A2.out _ hwa).mono ?_
  rintro o w1 ⟨rfl, rfl⟩
  go_wp2_with fail
 . exact zq265
 . exact zq265
 . exact zq266
 . exact zq266
 . exact zq267
 . exact zq267
end
structure BoxAt (w : World) (b : Nat) (cs : List Value) : Prop where
 cell : ∀ j v, cs[j]? = some v -> w.cell? ⟨b, j, none⟩ = some v
 lt : b < w.heap.size
theorem BoxAt.more {w w' : World} {b : Nat} {cs : List Value} (h : BoxAt w b cs) (hk : Kept [] w w') : BoxAt w' b cs := ⟨fun j v hv => (hk.cell (p := ⟨b, j, none⟩) h.lt (by simp)).trans (h.cell j v hv), Nat.lt_of_lt_of_le h.lt hk.size⟩
theorem BoxAt.below {w w' : World} {b : Nat} {cs : List Value} (h : BoxAt w b cs) (hb : Below w.heap.size w w') : BoxAt w' b cs := h.more (Below.kept hb [])
theorem BoxAt.drew {w : World} {b : Nat} {cs : List Value} (h : BoxAt w b cs) : BoxAt w.drew b cs := h.more (Kept.refl [] w).drew
theorem BoxAt.new (w : World) (cs : List Value) (T : Nat) : BoxAt (w.alloc (.cells cs.toArray T)) w.heap.size cs := ⟨fun j v hv => by simp [hv], by simp⟩
theorem l_Le (v : Int) (n : Nat) (hn : n <= 8) (w : World) : CK 147 #[.int .i64 v, .int .i64 n] (.string (leA v n)) w := (a_Le v n hn w).mono (fun e w' h => ⟨h.1, Below.kept h.2 []⟩)
def wideS (a b : Nat) : ByteArray := leA a 4 ++ leA b 4
theorem wideS_size (a b : Nat) : (wideS a b).size = 8 := by unfold wideS; rw [ByteArray.size_append, leA_size, leA_size]
theorem x_wideShow (a b : Nat) (w : World) :
 CK 149 #[.agg #[.int .i64 a, .int .i64 b]] (.string (wideS a b)) w := by
 have L1 := fun W => hide1 (l_Le (a : Int) 4 (by decide) W)
 have L2 := fun W => hide1 (l_Le (b : Int) 4 (by decide) W)
 obtain ⟨c, hc, hcs, ha⟩ := add_in (leA a 4) (leA b 4) (by rw [leA_size, leA_size]; decide)
 unfold wideS
 rw [<- hc]
 clear hc hcs
 obtain ⟨u1, h1⟩ := zn1 (leA a 4)
 obtain ⟨u2, h2⟩ := zn1 (leA b 4)
 simp only [<- h1, <- h2] at L1 L2 ha
 clear h1 h2
 have bx0 : BoxAt (w.alloc (.cells #[.int .i64 a, .int .i64 b] 69)).drew w.heap.size [.int .i64 a, .int .i64 b] := (BoxAt.new w [.int .i64 a, .int .i64 b] _).drew
 have hk0 : Kept [] w (w.alloc (.cells #[.int .i64 a, .int .i64 b] 69)).drew := ((Kept.refl _ _).alloc _).drew
 go_enter func149, ntmps149
 go_upto_region 1 with fail
 go_region_held3 (fun w' => w'.cell? ⟨w.heap.size, 0, none⟩ = some (.int .i64 a) /\ w'.cell? ⟨w.heap.size, 1, none⟩ = some (.int .i64 b)) (first | go_keep | exact ⟨bx1.cell 0 _ rfl, bx1.cell 1 _ rfl⟩ | exact ⟨bx2.cell 0 _ rfl, bx2.cell 1 _ rfl⟩) (first | (go_at_call_of 147 (Value.int IntKind.i64 (a : Int)); refine (L1 _).out.mono ?_; rintro e w1 ⟨rfl, hk1⟩; have bx1 := bx0.more hk1) | (go_at_call_of 147 (Value.int IntKind.i64 (b : Int)); refine (L2 _).out.mono ?_; rintro e w2 ⟨rfl, hk2⟩; have bx2 := bx1.more hk2))
 all_goals
  go_wp2_with fail
  go_ret
  exact ⟨rfl, (hk0.trans hk1).trans hk2⟩
theorem x_eith (b : Bool) (s t : ByteArray) (w : World) :
 CS 148 #[.bool b, .string s, .string t] (.string (if b = true then s else t)) w := by
 cases b
 all_goals
  go_enter func148, ntmps148
  go_wp2_with fail
  go_ret
  exact ⟨rfl, rfl⟩
def timerS (B : BusS) : ByteArray := (leA B.msip 1 ++ wideS B.time B.timeh) ++ wideS B.cmp B.cmph
theorem x_timerShow (B : BusS) (w : World) :
 CK 108 #[.agg #[.int .i64 B.msip, .int .i64 B.time, .int .i64 B.timeh, .int .i64 B.cmp, .int .i64 B.cmph]] (.string (timerS B)) w := by
 obtain ⟨m, t, th, c, ch, h5⟩ : ∃ m t th c ch, m = B.msip /\ t = B.time /\ th = B.timeh /\ c = B.cmp /\ ch = B.cmph := ⟨_, _, _, _, _, rfl, rfl, rfl, rfl, rfl⟩
 obtain ⟨e1, e2, e3, e4, e5⟩ := h5
 unfold timerS
 simp only [<- e1, <- e2, <- e3, <- e4, <- e5]
 clear e1 e2 e3 e4 e5
 have L1 := fun W => hide1 (l_Le (m : Int) 1 (by decide) W)
 have L2 := fun W => hide1 (x_wideShow t th W)
 have L3 := fun W => hide1 (x_wideShow c ch W)
 obtain ⟨s1, h1, z1, a1⟩ := add_in (leA m 1) (wideS t th) (by rw [leA_size, wideS_size]; decide)
 obtain ⟨s2, h2, z2, a2⟩ := add_in s1 (wideS c ch) (by rw [z1, leA_size, wideS_size, wideS_size]; decide)
 rw [<- h1, <- h2]
 clear h1 h2 z1 z2
 obtain ⟨u1, h1⟩ := zn1 (leA m 1)
 obtain ⟨u2, h2⟩ := zn1 (wideS t th)
 obtain ⟨u3, h3⟩ := zn1 (wideS c ch)
 simp only [<- h1, <- h2, <- h3] at L1 L2 L3 a1 a2
 clear h1 h2 h3
 have bx0 : BoxAt (w.alloc (.cells #[.int .i64 m, .int .i64 t, .int .i64 th, .int .i64 c, .int .i64 ch] 73)).drew w.heap.size [.int .i64 m, .int .i64 t, .int .i64 th, .int .i64 c, .int .i64 ch] := (BoxAt.new w [.int .i64 m, .int .i64 t, .int .i64 th, .int .i64 c, .int .i64 ch] _).drew
 have hk0 : Kept [] w (w.alloc (.cells #[.int .i64 m, .int .i64 t, .int .i64 th, .int .i64 c, .int .i64 ch] 73)).drew := ((Kept.refl _ _).alloc _).drew
 go_enter func108, ntmps108
 go_upto_region 1 with fail
 go_region_held3 (fun w' => w'.cell? ⟨w.heap.size, 0, none⟩ = some (.int .i64 m) /\ w'.cell? ⟨w.heap.size, 1, none⟩ = some (.int .i64 t) /\ w'.cell? ⟨w.heap.size, 2, none⟩ = some (.int .i64 th) /\ w'.cell? ⟨w.heap.size, 3, none⟩ = some (.int .i64 c) /\ w'.cell? ⟨w.heap.size, 4, none⟩ = some (.int .i64 ch)) (first | go_keep | exact ⟨bx1.cell 0 _ rfl, bx1.cell 1 _ rfl, bx1.cell 2 _ rfl, bx1.cell 3 _ rfl, bx1.cell 4 _ rfl⟩ | exact ⟨bx2.cell 0 _ rfl, bx2.cell 1 _ rfl, bx2.cell 2 _ rfl, bx2.cell 3 _ rfl, bx2.cell 4 _ rfl⟩ | exact ⟨bx3.cell 0 _ rfl, bx3.cell 1 _ rfl, bx3.cell 2 _ rfl, bx3.cell 3 _ rfl, bx3.cell 4 _ rfl⟩) (first | (go_at_call 147; refine (L1 _).out.mono ?_; rintro e w1 ⟨rfl, hk1⟩; have bx1 := bx0.more hk1) | (go_at_call_of 149 (Value.agg #[Value.int IntKind.i64 (t : Int), Value.int IntKind.i64 (th : Int)]); refine (L2 _).out.mono ?_; rintro e w2 ⟨rfl, hk2⟩; have bx2 := bx1.more hk2) | (go_at_call_of 149 (Value.agg #[Value.int IntKind.i64 (c : Int), Value.int IntKind.i64 (ch : Int)]); refine (L3 _).out.mono ?_; rintro e w3 ⟨rfl, hk3⟩; have bx3 := bx2.more hk3))
 all_goals
  go_wp2_with fail
  go_ret
  exact ⟨rfl, ((hk0.trans hk1).trans hk2).trans hk3⟩
section
attribute [local go_sem ↓] Go.wp_at_zero Go.wp_at_succ
structure BoxF (w : World) (b : Nat) (cs : List Value) : Prop where
 cell : ∀ j v, cs[j]? = some v -> w.cell? ⟨b, j, none⟩ = some v
 fro : ∀ o, w.frozen? ⟨b, o, none⟩ = false
 lt : b < w.heap.size
theorem BoxF.more {w w' : World} {b : Nat} {cs : List Value} {F : List Nat} (h : BoxF w b cs) (hk : Kept F w w') (hn : ¬ b ∈ F) : BoxF w' b cs := ⟨fun j v hv => (hk.cell (p := ⟨b, j, none⟩) h.lt hn).trans (h.cell j v hv), fun o => (hk.frozen (p := ⟨b, o, none⟩) h.lt hn).trans (h.fro o), Nat.lt_of_lt_of_le h.lt hk.size⟩
theorem BoxF.kept {w w' : World} {b : Nat} {cs : List Value} (h : BoxF w b cs) (hk : Kept [] w w') : BoxF w' b cs := h.more hk (by simp)
theorem BoxF.drew {w : World} {b : Nat} {cs : List Value} (h : BoxF w b cs) : BoxF w.drew b cs := h.kept (Kept.refl [] w).drew
theorem BoxF.alloc {w : World} {b : Nat} {cs : List Value} (h : BoxF w b cs) (o : Obj) : BoxF (w.alloc o) b cs := h.kept ((Kept.refl [] w).alloc o)
theorem BoxF.new (w : World) (cs : List Value) (T : Nat) : BoxF (w.alloc (.cells cs.toArray T)) w.heap.size cs := ⟨fun j v hv => by simp [hv], fun o => by simp, by simp⟩
def tgtD (X : XS) (i : NI) : Nat := wordN ((X.x.getD i.rs1 0 : Int) + i.im)
def npcD (X : XS) (i : NI) : Nat :=
 if i.op = 3 \/ ((5 <= i.op /\ i.op <= 10) /\ holds i.op (X.x.getD i.rs1 0) (X.x.getD i.rs2 0) = true) then wordN ((X.pc : Int) + i.im)
 else if i.op = 4 then tgtD X i - tgtD X i % 2
 else if i.op = 67 then X.c.mepc else if i.op = 68 then X.c.sepc else behD X.pc i
theorem x_nextPc_jal (mb rb : Nat) (X : XS) (hpc : X.pc < 4294967296) (i : NI) (hi : NIOk i) (hop : i.op = 3) (w) (hw : Hid (XAt w mb rb X)) :
 CK 132 #[.pointer (some ⟨mb, 0, none⟩), niV i] (.int .i64 (wordN ((X.pc : Int) + i.im))) w := by
 have hlt := hw.out.lt
 have hlt' : ¬ mb = w.heap.size := by omega
 have c33 := hw.out.c33
 have i0 := hi.im0
 have i1 := hi.im1
 have WD := hide1 (x_word ((X.pc : Int) + i.im))
 have wr : IntKind.i64.wrap ((X.pc : Int) + i.im) = (X.pc : Int) + i.im := zq9
 obtain ⟨r, hr⟩ := zn1 (wordN ((X.pc : Int) + i.im))
 simp only [<- hr] at WD |-
 unfold niV
 rw [hop]
 clear hr hi hw hop
 go_enter func132, ntmps132
 go_upto_region 2 with fail
 exact zq268
theorem x_nextPc_br (mb rb X) (hX : XOk X) (i : NI) (hi : NIOk i) (hop : 5 <= i.op /\ i.op <= 10) (hh : holds i.op (X.x.getD i.rs1 0) (X.x.getD i.rs2 0) = true) (w) (hw : Hid (XAt w mb rb X)) :
 CK 132 #[.pointer (some ⟨mb, 0, none⟩), niV i] (.int .i64 (wordN ((X.pc : Int) + i.im))) w := by
 have hpc := hX.pc
 have hlt := hw.out.lt
 have hlt' : ¬ mb = w.heap.size := by omega
 have c33 := hw.out.c33
 have i0 := hi.im0
 have i1 := hi.im1
 have WD := hide1 (x_word ((X.pc : Int) + i.im))
 have wr : IntKind.i64.wrap ((X.pc : Int) + i.im) = (X.pc : Int) + i.im := zq9
 obtain ⟨r, hr⟩ := zn1 (wordN ((X.pc : Int) + i.im))
 simp only [<- hr] at WD |-
 have hwa : Hid (XAt (w.alloc (niC i)) mb rb X) := zq10
 have BR := hide1 (fun W h => x_branches mb rb X hX.xr i hi hop W h)
 simp only [hh] at BR
 unfold niC at hwa
 unfold niV at BR |-
 obtain ⟨op, rd, rs1, rs2, im, ln⟩ := i
 dsimp only at *
 have IB : Hid (∀ W, CS 192 #[.int .i64 op] (.bool true) W) := zq49
 have q3 : (op == 3) = false := by simp; omega
 clear hr hi hw hop hh hX
 go_enter func132, ntmps132
 go_wp2_with (first | (go_at_call 192; refine (IB.out _).mono ?_; rintro o w2 ⟨rfl, rfl⟩))
 refine (BR.out _ hwa).mono ?_
 rintro o w1 ⟨rfl, hk1⟩
 have hx1 := hwa.out.kept hk1
 have d33 := hx1.c33
 have hl1 := hx1.lt
 obtain ⟨ic0w1, ic1w1, ic2w1, ic3w1, ic4w1, ic5w1, ifw1, izw1, izw11, inw11, izw12, inw12, izw13, inw13, izw14, inw14⟩ : Zc6 w1 w.heap.size op rd rs1 rs2 im ln := zq156
 go_upto_region 2 with fail
 go_quiet ((go_at_call 135; exact Calls.quiet_of_same (WD.out _)))
 exact zq269
theorem x_nextPc_jalr (mb rb X) (hX : XOk X) (i : NI) (hi : NIOk i) (hop : i.op = 4) (w) (hw : Hid (XAt w mb rb X)) :
 CK 132 #[.pointer (some ⟨mb, 0, none⟩), niV i] (.int .i64 ((tgtD X i - tgtD X i % 2 : Nat) : Int)) w := by
 have hlt := hw.out.lt
 have hlt' : ¬ mb = w.heap.size := by omega
 have c33 := hw.out.c33
 have i0 := hi.im0
 have i1 := hi.im1
 have ha := hX.xr i.rs1
 have A1 := hide1 (fun W h => x_register mb rb X i.rs1 hi.rs1 W h)
 have hwa : Hid (XAt (w.alloc (niC i)) mb rb X) := zq10
 have hl : tgtD X i < 4294967296 := by unfold tgtD wordN; omega
 unfold tgtD at hl |-
 obtain ⟨a, hae⟩ := zn1 (X.x.getD i.rs1 0)
 simp only [<- hae] at ha A1 hl |-
 have WD := hide1 (x_word ((a : Int) + i.im))
 have wr : IntKind.i64.wrap ((a : Int) + i.im) = (a : Int) + i.im := zq9
 obtain ⟨t, ht⟩ := zn1 (wordN ((a : Int) + i.im))
 simp only [<- ht] at WD hl |-
 have et : ((t - t % 2 : Nat) : Int) = (t : Int) - (t : Int) % 2 := by omega
 rw [et]
 unfold niC at hwa
 unfold niV
 obtain ⟨op, rd, rs1, rs2, im, ln⟩ := i
 dsimp only at *
 have IB : Hid (∀ W, CS 192 #[.int .i64 op] (.bool false) W) := zq50
 subst hop
 clear ht hae hi hw hX et
 go_enter func132, ntmps132
 go_upto_region 4 with (first | (go_at_call 192; refine (IB.out _).mono ?_; rintro o w2 ⟨rfl, rfl⟩))
 go_quiet ((first | (go_at_call 39; first | exact Calls.quiet_of_same (A1.out _ hwa) | exact Calls.quiet_of_same (A1.out _ (hide1 (hwa.out.drewN _))) | exact Calls.quiet_of_same (A1.out _ (hide1 hwa.out.drew))) | (go_at_call 135; exact Calls.quiet_of_same (WD.out _))))
 exact zq264
theorem x_nextPc_mret (mb rb : Nat) (X : XS) (i : NI) (hop : i.op = 67) (w) (hw : Hid (XAt w mb rb X)) :
 CK 132 #[.pointer (some ⟨mb, 0, none⟩), niV i] (.int .i64 X.c.mepc) w := by
 have hlt := hw.out.lt
 have hlt' : ¬ mb = w.heap.size := by omega
 have ce := hw.out.c47
 exact zq270
theorem x_nextPc_sret (mb rb : Nat) (X : XS) (i : NI) (hop : i.op = 68) (w) (hw : Hid (XAt w mb rb X)) :
 CK 132 #[.pointer (some ⟨mb, 0, none⟩), niV i] (.int .i64 X.c.sepc) w := by
 have hlt := hw.out.lt
 have hlt' : ¬ mb = w.heap.size := by omega
 have ce := hw.out.c53
 exact zq270
theorem x_nextPc_oth (mb rb X) (hX : XOk X) (i : NI) (hi : NIOk i) (h3 : i.op ≠ 3) (h4 : i.op ≠ 4) (h67 : i.op ≠ 67) (h68 : i.op ≠ 68) (hop : ¬ (5 <= i.op /\ i.op <= 10)) (w) (hw : Hid (XAt w mb rb X)) :
 CK 132 #[.pointer (some ⟨mb, 0, none⟩), niV i] (.int .i64 (behD X.pc i)) w := by
 have BH := hide1 (fun W h => x_behind mb rb X hX.pc i hi W h)
 have hwa : Hid (XAt (w.alloc (niC i)) mb rb X) := zq10
 obtain ⟨r, hr⟩ := zn1 (behD X.pc i)
 simp only [<- hr] at BH |-
 unfold niC at hwa
 unfold niV at BH |-
 obtain ⟨op, rd, rs1, rs2, im, ln⟩ := i
 dsimp only at *
 have IB : Hid (∀ W, CS 192 #[.int .i64 op] (.bool false) W) := zq50
 have q3 : (op == 3) = false := by simp [h3]
 have q4 : (op == 4) = false := by simp [h4]
 have q67 : (op == 67) = false := by simp [h67]
 have q68 : (op == 68) = false := by simp [h68]
 clear hw hX hi hr h3 h4 h67 h68 hop
 go_enter func132, ntmps132
 go_wp2_with (first | (go_at_call 192; refine (IB.out _).mono ?_; rintro o w2 ⟨rfl, rfl⟩))
 refine (BH.out _ hwa).mono ?_
 rintro o w1 ⟨rfl, hk1⟩
 go_wp2_with fail
 go_ret
 exact ⟨rfl, ((Kept.refl _ _).alloc _).trans hk1⟩
theorem x_nextPc_bn (mb rb X) (hX : XOk X) (i : NI) (hi : NIOk i) (hop : 5 <= i.op /\ i.op <= 10) (hh : holds i.op (X.x.getD i.rs1 0) (X.x.getD i.rs2 0) = false) (w) (hw : Hid (XAt w mb rb X)) :
 CK 132 #[.pointer (some ⟨mb, 0, none⟩), niV i] (.int .i64 (behD X.pc i)) w := by
 have hlt := hw.out.lt
 have hrlt := hw.out.rlt
 have BH := hide1 (fun W h => x_behind mb rb X hX.pc i hi W h)
 have hwa : Hid (XAt (w.alloc (niC i)) mb rb X) := zq10
 have BR := hide1 (fun W h => x_branches mb rb X hX.xr i hi hop W h)
 simp only [hh] at BR
 obtain ⟨r, hr⟩ := zn1 (behD X.pc i)
 simp only [<- hr] at BH |-
 unfold niC at hwa
 unfold niV at BH BR |-
 obtain ⟨op, rd, rs1, rs2, im, ln⟩ := i
 dsimp only at *
 have IB : Hid (∀ W, CS 192 #[.int .i64 op] (.bool true) W) := zq49
 have q3 : (op == 3) = false := by simp; omega
 have q4 : (op == 4) = false := by simp; omega
 have q67 : (op == 67) = false := by simp; omega
 have q68 : (op == 68) = false := by simp; omega
 clear hw hX hi hr hop hh
 go_enter func132, ntmps132
 go_wp2_with (first | (go_at_call 192; refine (IB.out _).mono ?_; rintro o w2 ⟨rfl, rfl⟩))
 refine (BR.out _ hwa).mono ?_
 rintro o w1 ⟨rfl, hk1⟩
 have hx1 := hide1 (hwa.out.kept hk1)
 obtain ⟨ic0w1, ic1w1, ic2w1, ic3w1, ic4w1, ic5w1, ifw1, izw1, izw11, inw11, izw12, inw12, izw13, inw13, izw14, inw14⟩ : Zc6 w1 w.heap.size op rd rs1 rs2 im ln := zq156
 go_wp2_with fail
 refine (BH.out _ hx1).mono ?_
 rintro o w2 ⟨rfl, hk2⟩
 go_wp2_with fail
 go_ret
 refine ⟨rfl, ?_⟩
 exact zq271
theorem x_nextPc (mb rb X) (hX : XOk X) (i : NI) (hi : NIOk i) (w) (hw : Hid (XAt w mb rb X)) :
 CK 132 #[.pointer (some ⟨mb, 0, none⟩), niV i] (.int .i64 (npcD X i)) w := by
 unfold npcD
 by_cases h3 : i.op = 3
 . rw [if_pos (.inl h3)]
   exact x_nextPc_jal mb rb X hX.pc i hi h3 w hw
 by_cases hb : 5 <= i.op /\ i.op <= 10
 . cases hh : holds i.op (X.x.getD i.rs1 0) (X.x.getD i.rs2 0) with
   | true =>
    rw [if_pos (.inr ⟨hb, rfl⟩)]
    exact x_nextPc_br mb rb X hX i hi hb hh w hw
   | false =>
    rw [if_neg (by simp [h3]), if_neg (by omega), if_neg (by omega), if_neg (by omega)]
    exact x_nextPc_bn mb rb X hX i hi hb hh w hw
 rw [if_neg (by intro h; rcases h with h | h; exact h3 h; exact hb h.1)]
 by_cases h4 : i.op = 4
 . rw [if_pos h4]; exact x_nextPc_jalr mb rb X hX i hi h4 w hw
 rw [if_neg h4]
 by_cases h67 : i.op = 67
 . rw [if_pos h67]; exact x_nextPc_mret mb rb X i h67 w hw
 rw [if_neg h67]
 by_cases h68 : i.op = 68
 . rw [if_pos h68]; exact x_nextPc_sret mb rb X i h68 w hw
 rw [if_neg h68]
 exact x_nextPc_oth mb rb X hX i hi h3 h4 h67 h68 hb w hw
def rsvD (X : XS) (i : NI) : Nat :=
 if i.op = 1 then wordN (i.im * 4096) else if i.op = 2 then wordN ((X.pc : Int) + i.im * 4096) else if i.op = 3 \/ i.op = 4 then behD X.pc i
 else if i.op <= 27 then alu i.op (X.x.getD i.rs1 0) (wordN i.im) else alu i.op (X.x.getD i.rs1 0) (X.x.getD i.rs2 0)
theorem x_result_lui (mb rb X) (hX : XOk X) (i : NI) (hi : NIOk i) (hop : i.op = 1) (w) (hw : Hid (XAt w mb rb X)) :
 CK 196 #[.pointer (some ⟨mb, 0, none⟩), niV i] (.int .i64 (wordN (i.im * 4096) : Nat)) w := by
 have hlt := hw.out.lt
 have hlt' : ¬ mb = w.heap.size := by omega
 have c33 := hw.out.c33
 have hpc := hX.pc
 have i0 := hi.im0
 have i1 := hi.im1
 have ha := hX.xr i.rs1
 have hb := hX.xr i.rs2
 have A1 := hide1 (fun W h => x_register mb rb X i.rs1 hi.rs1 W h)
 have A2 := hide1 (fun W h => x_register mb rb X i.rs2 hi.rs2 W h)
 have BH := hide1 (fun W h => x_behind mb rb X hX.pc i hi W h)
 have hwa : Hid (XAt (w.alloc (niC i)) mb rb X) := zq10
 obtain ⟨a, hae⟩ := zn1 (X.x.getD i.rs1 0)
 obtain ⟨b, hbe⟩ := zn1 (X.x.getD i.rs2 0)
 simp only [<- hae] at ha A1 |-
 simp only [<- hbe] at hb A2 |-
 obtain ⟨bh, hbh⟩ := zn1 (behD X.pc i)
 simp only [<- hbh] at BH |-
 unfold niC at hwa
 unfold niV at BH |-
 obtain ⟨op, rd, rs1, rs2, im, ln⟩ := i
 dsimp only at *
 have WD := hide1 (x_word (im * 4096))
 obtain ⟨r, hr⟩ := zn1 (wordN (im * 4096))
 simp only [<- hr] at WD |-
 subst hop
 clear hr
 clear hw hX hi hae hbe hbh
 go_enter func196, ntmps196
 go_wp2_with fail
 refine (A1.out _ hwa).mono ?_
 rintro o w1 ⟨rfl, rfl⟩
 go_wp2_with (go_at_call 135; refine (WD.out _).mono ?_; rintro o w2 ⟨rfl, rfl⟩)
 exact zq247
theorem x_result_aui (mb rb X) (hX : XOk X) (i : NI) (hi : NIOk i) (hop : i.op = 2) (w) (hw : Hid (XAt w mb rb X)) :
 CK 196 #[.pointer (some ⟨mb, 0, none⟩), niV i] (.int .i64 (wordN ((X.pc : Int) + i.im * 4096) : Nat)) w := by
 have hlt := hw.out.lt
 have hlt' : ¬ mb = w.heap.size := by omega
 have c33 := hw.out.c33
 have hpc := hX.pc
 have i0 := hi.im0
 have i1 := hi.im1
 have ha := hX.xr i.rs1
 have hb := hX.xr i.rs2
 have A1 := hide1 (fun W h => x_register mb rb X i.rs1 hi.rs1 W h)
 have A2 := hide1 (fun W h => x_register mb rb X i.rs2 hi.rs2 W h)
 have BH := hide1 (fun W h => x_behind mb rb X hX.pc i hi W h)
 have hwa : Hid (XAt (w.alloc (niC i)) mb rb X) := zq10
 obtain ⟨a, hae⟩ := zn1 (X.x.getD i.rs1 0)
 obtain ⟨b, hbe⟩ := zn1 (X.x.getD i.rs2 0)
 simp only [<- hae] at ha A1 |-
 simp only [<- hbe] at hb A2 |-
 obtain ⟨bh, hbh⟩ := zn1 (behD X.pc i)
 simp only [<- hbh] at BH |-
 unfold niC at hwa
 unfold niV at BH |-
 obtain ⟨op, rd, rs1, rs2, im, ln⟩ := i
 dsimp only at *
 have WD := hide1 (x_word ((X.pc : Int) + im * 4096))
 have wr : IntKind.i64.wrap (im * 4096) = im * 4096 := zq9
 have wr2 : IntKind.i64.wrap ((X.pc : Int) + im * 4096) = (X.pc : Int) + im * 4096 := zq9
 obtain ⟨r, hr⟩ := zn1 (wordN ((X.pc : Int) + im * 4096))
 simp only [<- hr] at WD |-
 subst hop
 clear hr
 clear hw hX hi hae hbe hbh
 go_enter func196, ntmps196
 go_wp2_with fail
 refine (A1.out _ hwa).mono ?_
 rintro o w1 ⟨rfl, rfl⟩
 go_upto_region 5 with fail
 exact zq268
theorem x_result_jal (mb rb X) (hX : XOk X) (i : NI) (hi : NIOk i) (hop : i.op = 3) (w) (hw : Hid (XAt w mb rb X)) :
 CK 196 #[.pointer (some ⟨mb, 0, none⟩), niV i] (.int .i64 (behD X.pc i : Nat)) w := zq272
theorem x_result_jalr (mb rb X) (hX : XOk X) (i : NI) (hi : NIOk i) (hop : i.op = 4) (w) (hw : Hid (XAt w mb rb X)) :
 CK 196 #[.pointer (some ⟨mb, 0, none⟩), niV i] (.int .i64 (behD X.pc i : Nat)) w := zq272
theorem x_result_imm (mb rb X) (hX : XOk X) (i : NI) (hi : NIOk i) (hop : 19 <= i.op /\ i.op <= 27) (w) (hw : Hid (XAt w mb rb X)) :
 CK 196 #[.pointer (some ⟨mb, 0, none⟩), niV i] (.int .i64 (alu i.op (X.x.getD i.rs1 0) (wordN i.im) : Nat)) w := by
 have hlt := hw.out.lt
 have hlt' : ¬ mb = w.heap.size := by omega
 have c33 := hw.out.c33
 have hpc := hX.pc
 have i0 := hi.im0
 have i1 := hi.im1
 have ha := hX.xr i.rs1
 have hb := hX.xr i.rs2
 have A1 := hide1 (fun W h => x_register mb rb X i.rs1 hi.rs1 W h)
 have A2 := hide1 (fun W h => x_register mb rb X i.rs2 hi.rs2 W h)
 have BH := hide1 (fun W h => x_behind mb rb X hX.pc i hi W h)
 have hwa : Hid (XAt (w.alloc (niC i)) mb rb X) := zq10
 obtain ⟨a, hae⟩ := zn1 (X.x.getD i.rs1 0)
 obtain ⟨b, hbe⟩ := zn1 (X.x.getD i.rs2 0)
 simp only [<- hae] at ha A1 |-
 simp only [<- hbe] at hb A2 |-
 obtain ⟨bh, hbh⟩ := zn1 (behD X.pc i)
 simp only [<- hbh] at BH |-
 unfold niC at hwa
 unfold niV at BH |-
 obtain ⟨op, rd, rs1, rs2, im, ln⟩ := i
 dsimp only at *
 have WD := hide1 (x_word im)
 have hwl : wordN im < 4294967296 := by unfold wordN; omega
 have hal := alu_regD op hop.1 hop.2 a (wordN im)
 have RF := hide1 (x_registerForm op)
 have RK := hide1 (x_reckon (xregD op) hal.2.1 hal.2.2 a (wordN im) ha hwl)
 simp only [hal.1] at RK
 obtain ⟨u, hu⟩ := zn1 (wordN im)
 simp only [<- hu] at WD RK |-
 obtain ⟨f, hf⟩ := zn1 (xregD op)
 simp only [<- hf] at RF RK
 obtain ⟨r, hr⟩ := zn1 (alu op a u)
 simp only [<- hr] at RK |-
 have q1 : (op == 1) = false := by simp; omega
 have q2 : (op == 2) = false := by simp; omega
 have q3 : (op == 3) = false := by simp; omega
 have q4 : (op == 4) = false := by simp; omega
 have q27 : decide (op <= 27) = true := by simp; omega
 clear hr hf hu hal hwl hop
 clear hw hX hi hae hbe hbh
 go_enter func196, ntmps196
 go_wp2_with fail
 refine (A1.out _ hwa).mono ?_
 rintro o w1 ⟨rfl, rfl⟩
 go_upto_region 9 with fail
 go_quiet ((first | (go_at_call 135; exact Calls.quiet_of_same (WD.out _)) | (go_at_call 265; exact Calls.quiet_of_same (RF.out _)) | (go_at_call 264; exact Calls.quiet_of_same (RK.out _))))
 exact zq264
theorem x_result_reg (mb rb X) (hX : XOk X) (i : NI) (hi : NIOk i) (hop : 28 <= i.op /\ i.op <= 37) (w) (hw : Hid (XAt w mb rb X)) :
 CK 196 #[.pointer (some ⟨mb, 0, none⟩), niV i] (.int .i64 (alu i.op (X.x.getD i.rs1 0) (X.x.getD i.rs2 0) : Nat)) w := by
 have hlt := hw.out.lt
 have hlt' : ¬ mb = w.heap.size := by omega
 have c33 := hw.out.c33
 have hpc := hX.pc
 have i0 := hi.im0
 have i1 := hi.im1
 have ha := hX.xr i.rs1
 have hb := hX.xr i.rs2
 have A1 := hide1 (fun W h => x_register mb rb X i.rs1 hi.rs1 W h)
 have A2 := hide1 (fun W h => x_register mb rb X i.rs2 hi.rs2 W h)
 have BH := hide1 (fun W h => x_behind mb rb X hX.pc i hi W h)
 have hwa : Hid (XAt (w.alloc (niC i)) mb rb X) := zq10
 obtain ⟨a, hae⟩ := zn1 (X.x.getD i.rs1 0)
 obtain ⟨b, hbe⟩ := zn1 (X.x.getD i.rs2 0)
 simp only [<- hae] at ha A1 |-
 simp only [<- hbe] at hb A2 |-
 obtain ⟨bh, hbh⟩ := zn1 (behD X.pc i)
 simp only [<- hbh] at BH |-
 unfold niC at hwa
 unfold niV at BH |-
 obtain ⟨op, rd, rs1, rs2, im, ln⟩ := i
 dsimp only at *
 have RK := hide1 (x_reckon op hop.1 hop.2 a b ha hb)
 obtain ⟨r, hr⟩ := zn1 (alu op a b)
 simp only [<- hr] at RK |-
 have q1 : (op == 1) = false := by simp; omega
 have q2 : (op == 2) = false := by simp; omega
 have q3 : (op == 3) = false := by simp; omega
 have q4 : (op == 4) = false := by simp; omega
 have q27 : decide (op <= 27) = false := by simp; omega
 have q37 : decide (op <= 37) = true := by simp; omega
 clear hr hop
 clear hw hX hi hae hbe hbh
 go_enter func196, ntmps196
 go_wp2_with fail
 refine (A1.out _ hwa).mono ?_
 rintro o w1 ⟨rfl, rfl⟩
 go_upto_region 11 with fail
 go_quiet ((first | (go_at_call 39; first | exact Calls.quiet_of_same (A2.out _ hwa) | exact Calls.quiet_of_same (A2.out _ (hide1 (hwa.out.drewN _))) | exact Calls.quiet_of_same (A2.out _ (hide1 hwa.out.drew))) | (go_at_call 264; exact Calls.quiet_of_same (RK.out _))))
 exact zq264
theorem x_result_mul (mb rb X) (hX : XOk X) (i : NI) (hi : NIOk i) (hop : 42 <= i.op /\ i.op <= 49) (w) (hw : Hid (XAt w mb rb X)) :
 CK 196 #[.pointer (some ⟨mb, 0, none⟩), niV i] (.int .i64 (alu i.op (X.x.getD i.rs1 0) (X.x.getD i.rs2 0) : Nat)) w := by
 have hlt := hw.out.lt
 have hlt' : ¬ mb = w.heap.size := by omega
 have c33 := hw.out.c33
 have hpc := hX.pc
 have i0 := hi.im0
 have i1 := hi.im1
 have ha := hX.xr i.rs1
 have hb := hX.xr i.rs2
 have A1 := hide1 (fun W h => x_register mb rb X i.rs1 hi.rs1 W h)
 have A2 := hide1 (fun W h => x_register mb rb X i.rs2 hi.rs2 W h)
 have BH := hide1 (fun W h => x_behind mb rb X hX.pc i hi W h)
 have hwa : Hid (XAt (w.alloc (niC i)) mb rb X) := zq10
 obtain ⟨a, hae⟩ := zn1 (X.x.getD i.rs1 0)
 obtain ⟨b, hbe⟩ := zn1 (X.x.getD i.rs2 0)
 simp only [<- hae] at ha A1 |-
 simp only [<- hbe] at hb A2 |-
 obtain ⟨bh, hbh⟩ := zn1 (behD X.pc i)
 simp only [<- hbh] at BH |-
 unfold niC at hwa
 unfold niV at BH |-
 obtain ⟨op, rd, rs1, rs2, im, ln⟩ := i
 dsimp only at *
 have RK := hide1 (x_multiply op hop.1 hop.2 a b ha hb)
 obtain ⟨r, hr⟩ := zn1 (alu op a b)
 simp only [<- hr] at RK |-
 have q1 : (op == 1) = false := by simp; omega
 have q2 : (op == 2) = false := by simp; omega
 have q3 : (op == 3) = false := by simp; omega
 have q4 : (op == 4) = false := by simp; omega
 have q27 : decide (op <= 27) = false := by simp; omega
 have q37 : decide (op <= 37) = false := by simp; omega
 clear hr hop
 clear hw hX hi hae hbe hbh
 go_enter func196, ntmps196
 go_wp2_with fail
 refine (A1.out _ hwa).mono ?_
 rintro o w1 ⟨rfl, rfl⟩
 go_upto_region 12 with fail
 go_quiet ((first | (go_at_call 39; first | exact Calls.quiet_of_same (A2.out _ hwa) | exact Calls.quiet_of_same (A2.out _ (hide1 (hwa.out.drewN _))) | exact Calls.quiet_of_same (A2.out _ (hide1 hwa.out.drew))) | (go_at_call 266; exact Calls.quiet_of_same (RK.out _))))
 exact zq264
theorem x_result (mb rb X) (hX : XOk X) (i : NI) (hi : NIOk i) (hr : xresD i.op = true) (w) (hw : Hid (XAt w mb rb X)) :
 CK 196 #[.pointer (some ⟨mb, 0, none⟩), niV i] (.int .i64 (rsvD X i)) w := by
 unfold xresD at hr
 simp only [decide_eq_true_eq] at hr
 unfold rsvD
 by_cases h1 : i.op = 1
 . rw [if_pos h1]; exact x_result_lui mb rb X hX i hi h1 w hw
 rw [if_neg h1]
 by_cases h2 : i.op = 2
 . rw [if_pos h2]; exact x_result_aui mb rb X hX i hi h2 w hw
 rw [if_neg h2]
 by_cases h3 : i.op = 3
 . rw [if_pos (.inl h3)]; exact x_result_jal mb rb X hX i hi h3 w hw
 by_cases h4 : i.op = 4
 . rw [if_pos (.inr h4)]; exact x_result_jalr mb rb X hX i hi h4 w hw
 rw [if_neg (by omega)]
 by_cases h5 : i.op <= 27
 . rw [if_pos h5]; exact x_result_imm mb rb X hX i hi (by omega) w hw
 rw [if_neg h5]
 by_cases h6 : i.op <= 37
 . exact x_result_reg mb rb X hX i hi (by omega) w hw
 . exact x_result_mul mb rb X hX i hi (by omega) w hw
theorem cell_drewN (w : World) (n : Nat) (p : Addr) : (w.drewN n).cell? p = w.cell? p := rfl
theorem fro_drewN (w : World) (n : Nat) (p : Addr) : (w.drewN n).frozen? p = w.frozen? p := rfl
def nD (op : Int) : Nat := (xaccD op).toNat
theorem nD_cast (op : Int) : ((nD op : Nat) : Int) = xaccD op := by
 unfold nD xaccD; repeat' split
 all_goals omega
theorem nD_le (op : Int) : 1 <= nD op /\ nD op <= 4 := by
 have := nD_cast op
 unfold xaccD at this
 repeat' split at this
 all_goals omega
theorem reach_takes (B : BusS) (C : CsrS) (va n k : Nat) (h : (reachD B C va n k).1.fault = 0) : takesD ((reachD B C va n k).1.pa1 : Nat) ((reachD B C va n k).1.n1 : Nat) B.ram.length = true /\ (0 < (reachD B C va n k).1.n2 -> takesD ((reachD B C va n k).1.pa2 : Nat) ((reachD B C va n k).1.n2 : Nat) B.ram.length = true) := by
 have l1 := tr_len B C va k
 have l2 := tr_len (trD B C va k).2 C ((va + roomD va n) % 4294967296) k
 revert h
 unfold reachD reach1 reach2
 obtain ⟨kk, hk⟩ := zn1 (roomD va n)
 rw [<- hk] at l2 |-
 obtain ⟨T, hT⟩ := zn1 (trD B C va k)
 rw [<- hT] at l1 l2 |-
 obtain ⟨U, hU⟩ := zn1 (trD T.2 C ((va + kk) % 4294967296) k)
 rw [<- hU] at l2 |-
 rw [l1] at l2
 repeat' split
 all_goals (intro h; dsimp only at h |-)
 all_goals first
  | (exfalso; omega)
  | (exact ⟨by rw [<- l1]; assumption, fun _ => by rw [<- l2]; assumption⟩)
  | (exact ⟨by rw [<- l1]; assumption, fun h => by omega⟩)
def ldvD (op : Int) (v : Nat) : Nat := if op = 11 \/ op = 12 then wordN (xextD v (xaccD op)) else v
def vaD (X : XS) (i : NI) : Nat := wordN ((X.x.getD i.rs1 0 : Int) + i.im)
def excA (c t : Int) : Value := .agg #[.int .i64 c, .int .i64 t]
def ldF (X : XS) (i : NI) (S : Spn × BusS) : (Int × Nat) × XS :=
 if S.1.fault = 0 then ((-1, 0), setXR (X.withB (loadD S.2 S.1).2) i.rd (ldvD i.op (loadD S.2 S.1).1)) else ((xfauD S.1.fault 1, S.1.wh), X.withB S.2)
def ldX (X : XS) (i : NI) : (Int × Nat) × XS := ldF X i (reachD X.b (xC X) (vaD X i) (nD i.op) 1)
theorem x_load_f (mb rb X) (hX : XOk X) (i : NI) (hi : NIOk i) (hf : (reachD X.b (xC X) (vaD X i) (nD i.op) 1).1.fault ≠ 0) (w) (hw : Hid (XAt w mb rb X)) :
 CX 199 #[.pointer (some ⟨mb, 0, none⟩), niV i] (excA (ldX X i).1.1 (ldX X i).1.2) [mb, rb] mb rb ((ldX X i).2) w := by
 have hlt := hw.out.lt
 have hrlt := hw.out.rlt
 have hlt' : ¬ mb = w.heap.size := by omega
 have i0 := hi.im0
 have i1 := hi.im1
 have ha := hX.xr i.rs1
 have A1 := hide1 (fun W h => x_register mb rb X i.rs1 hi.rs1 W h)
 have hwa : Hid (XAt ((w.alloc (niC i)).alloc (.cells #[.int .i64 0, .int .i64 0] 118)) mb rb X) := zq22
 have hva : vaD X i < 4294967296 := zq51
 have hnn := nD_le i.op
 have RE := hide1 (fun W h => x_reach mb rb X hX (vaD X i) (nD i.op) 1 hva hnn.1 hnn.2 (.inr (.inl rfl)) W h)
 have AS : Hid (∀ W, CS 268 #[.int .i64 i.op] (.int .i64 (nD i.op)) W) := zq52
 have WD : Hid (∀ W, CS 135 #[.int .i64 ((X.x.getD i.rs1 0 : Int) + i.im)] (.int .i64 (vaD X i)) W) := zq53
 have wr : IntKind.i64.wrap ((X.x.getD i.rs1 0 : Int) + i.im) = (X.x.getD i.rs1 0 : Int) + i.im := zq9
 have hok := reach_ok hX.b (xC X) (vaD X i) (nD i.op) 1
 have hsp := reach_sp X.b (xC X) (vaD X i) (nD i.op) 1 hva hnn.1
 have htk := reach_takes X.b (xC X) (vaD X i) (nD i.op) 1
 have hle := reach_len X.b (xC X) (vaD X i) (nD i.op) 1
 unfold ldX ldF
 obtain ⟨S, hS⟩ := zn1 (reachD X.b (xC X) (vaD X i) (nD i.op) 1)
 simp only [<- hS] at RE hok hsp htk hle hf |-
 obtain ⟨va, hvv⟩ := zn1 (vaD X i)
 obtain ⟨n, hnv⟩ := zn1 (nD i.op)
 obtain ⟨a, hae⟩ := zn1 (X.x.getD i.rs1 0)
 simp only [<- hvv] at RE WD
 simp only [<- hnv] at RE AS hsp hnn
 simp only [<- hae] at A1 WD wr ha
 clear hS hvv hae
 obtain ⟨⟨pa1, n1, pa2, n2, ft, wh⟩, B⟩ := S
 have hXB := XS.okB hX hok
 rw [<- hle] at htk
 dsimp only at RE hok hsp htk hle hf hXB |-
 rw [if_neg hf]
 unfold niC at hwa
 unfold niV
 obtain ⟨op, rd, rs1, rs2, im, ln⟩ := i
 dsimp only at *
 rw [show spV ⟨pa1, n1, pa2, n2, ft, wh⟩ 1 = .tuple #[.agg #[.int .i64 0, .int .i64 0], .agg #[.int .i64 0, .int .i64 0], .agg #[.int .i64 (xfauD ft 1), .int .i64 wh]] by unfold spV; dsimp only; rw [if_neg hf]; rfl] at RE
 have hn := xfau_ne ft 1
 obtain ⟨c, hc⟩ := zn1 (xfauD ft 1)
 simp only [<- hc] at RE hn |-
 unfold excA
 clear hw hX hi hc hf htk hsp hle hok hXB hnv hnn hva
 go_enter func199, ntmps199
 go_upto_region 1 with fail
 go_quiet ((first | (go_at_call 39; first | exact Calls.quiet_of_same (A1.out _ hwa) | exact Calls.quiet_of_same (A1.out _ (hide1 (hwa.out.drewN _))) | exact Calls.quiet_of_same (A1.out _ (hide1 hwa.out.drew))) | (go_at_call 135; exact Calls.quiet_of_same (WD.out _))))
 go_wp2_with (go_at_call 268; refine (AS.out _).mono ?_; rintro o w2 ⟨rfl, rfl⟩)
 refine (RE.out _ (hide1 (hwa.out.drewN _))).mono ?_
 rintro o w1 ⟨rfl, hx1, hk1⟩
 obtain ⟨ic0w1, ic1w1, ic2w1, ic3w1, ic4w1, ic5w1, ifw1, izw1, izw11, inw11, izw12, inw12, izw13, inw13, izw14, inw14⟩ : Zc6 w1 w.heap.size op rd rs1 rs2 im ln := zq157
 obtain ⟨rc0w1, rc1w1, rfw1, rzw1, rzw11, rnw11, rzw12, rnw12, rzw13, rnw13, rzw14, rnw14⟩ : Zc2 w1 (w.heap.size + 1) 0 0 := zq158
 go_wp2_with (first | (go_at_call 82; refine (x_none _ _ _).mono ?_; rintro o wn ⟨rfl, rfl⟩))
 refine bodyPost_ret (v := .agg #[.int .i64 c, .int .i64 wh]) (by simp [results, results199, go_sem, rc0w1, rc1w1, rzw1, rzw11, rnw11, rzw12, rnw12, rzw13, rnw13, rzw14, rnw14, Nat.ne_of_lt, Nat.ne_of_gt]) rfl ⟨rfl, hx1.box (w.heap.size + 1) ?_ (by omega) (by omega), ?_⟩
 . exact zq273
 . exact zq274
theorem mul_pow256 (u v n1 n2 n : Nat) (hu : u < 256 ^ n1) (hv : v < 256 ^ n2) (hn : n1 + n2 = n) (h4 : n <= 4) : u + v * 256 ^ n1 < 4294967296 := by
 have h1 : (v + 1) * 256 ^ n1 <= 256 ^ n2 * 256 ^ n1 := Nat.mul_le_mul_right _ hv
 rw [<- Nat.pow_add, Nat.add_comm n2 n1, hn] at h1
 have h2 : 256 ^ n <= 256 ^ 4 := Nat.pow_le_pow_right (by omega) h4
 have h3 : (256 : Nat) ^ 4 = 4294967296 := by decide
 rw [Nat.add_mul] at h1
 omega
theorem x_load_y1u (mb rb X) (hX : XOk X) (i : NI) (hi : NIOk i) (hf : (reachD X.b (xC X) (vaD X i) (nD i.op) 1).1.fault = 0) (h2 : (reachD X.b (xC X) (vaD X i) (nD i.op) 1).1.n2 = 0) (hs : ¬ (i.op = 11 \/ i.op = 12)) (w) (hw : Hid (XAt w mb rb X)) :
 CX 199 #[.pointer (some ⟨mb, 0, none⟩), niV i] (excA (ldX X i).1.1 (ldX X i).1.2) [mb, rb] mb rb ((ldX X i).2) w := by
 have hlt := hw.out.lt
 have hrlt := hw.out.rlt
 have hlt' : ¬ mb = w.heap.size := by omega
 have i0 := hi.im0
 have i1 := hi.im1
 have ha := hX.xr i.rs1
 have A1 := hide1 (fun W h => x_register mb rb X i.rs1 hi.rs1 W h)
 have hwa : Hid (XAt ((w.alloc (niC i)).alloc (.cells #[.int .i64 0, .int .i64 0] 118)) mb rb X) := zq22
 have hva : vaD X i < 4294967296 := zq51
 have hnn := nD_le i.op
 have RE := hide1 (fun W h => x_reach mb rb X hX (vaD X i) (nD i.op) 1 hva hnn.1 hnn.2 (.inr (.inl rfl)) W h)
 have AS : Hid (∀ W, CS 268 #[.int .i64 i.op] (.int .i64 (nD i.op)) W) := zq52
 have WD : Hid (∀ W, CS 135 #[.int .i64 ((X.x.getD i.rs1 0 : Int) + i.im)] (.int .i64 (vaD X i)) W) := zq53
 have wr : IntKind.i64.wrap ((X.x.getD i.rs1 0 : Int) + i.im) = (X.x.getD i.rs1 0 : Int) + i.im := zq9
 have hok := reach_ok hX.b (xC X) (vaD X i) (nD i.op) 1
 have hsp := reach_sp X.b (xC X) (vaD X i) (nD i.op) 1 hva hnn.1
 have htk := reach_takes X.b (xC X) (vaD X i) (nD i.op) 1
 have hle := reach_len X.b (xC X) (vaD X i) (nD i.op) 1
 unfold ldX ldF
 obtain ⟨S, hS⟩ := zn1 (reachD X.b (xC X) (vaD X i) (nD i.op) 1)
 simp only [<- hS] at RE hok hsp htk hle hf h2 |-
 obtain ⟨va, hvv⟩ := zn1 (vaD X i)
 obtain ⟨n, hnv⟩ := zn1 (nD i.op)
 obtain ⟨a, hae⟩ := zn1 (X.x.getD i.rs1 0)
 simp only [<- hvv] at RE WD
 simp only [<- hnv] at RE AS hsp hnn
 simp only [<- hae] at A1 WD wr ha
 clear hS hvv hae
 obtain ⟨⟨pa1, n1, pa2, n2, ft, wh⟩, B⟩ := S
 have hXB := XS.okB hX hok
 rw [<- hle] at htk
 dsimp only at RE hok hsp htk hle hf h2 hXB |-
 rw [if_pos hf]
 subst hf
 have htk := htk rfl
 have hx32 := hX.x
 have hrd := hi.rd
 have sp1 := hsp.n1 rfl
 have sps := hsp.sum rfl
 have spp1 := hsp.pa1
 have spp2 := hsp.pa2
 dsimp only at sp1 sps spp1 spp2
 subst h2
 unfold niC at hwa
 unfold niV
 rw [show spV ⟨pa1, n1, pa2, 0, 0, wh⟩ 1 = .tuple #[.agg #[.int .i64 pa1, .int .i64 n1], .agg #[.int .i64 pa2, .int .i64 0], .agg #[.int .i64 (-1), .int .i64 0]] from rfl] at RE
 have R1 := hide1 (fun W h => x_read mb rb (X.withB B) hok pa1 n1 spp1 sp1 (by omega) htk.1 W h)
 have r1ok := readD_ok hok pa1 n1
 have r1lt := readD_lt hok pa1 n1 sp1
 have r1len := readD_len B pa1 n1
 have eB : (X.withB B).b = B := rfl
 rw [eB] at R1
 unfold loadD
 dsimp only
 rw [if_neg (by omega)]
 obtain ⟨T1, hT1⟩ := zn1 (readD B pa1 n1)
 simp only [<- hT1] at R1 r1ok r1lt  |-
 clear hT1
 obtain ⟨u, B1⟩ := T1
 have hBB : (X.withB B).withB B1 = X.withB B1 := rfl
 rw [hBB] at R1
 obtain ⟨s, hse⟩ := zn1 (8 * n1)
 have hs64 : s <= 32 := by omega
 have e8 : (8 : Int) * (n1 : Int) = (s : Int) := by omega
 have hp : u < 4294967296 := zq59
 obtain ⟨V, hV⟩ := zn1 (u)
 have hVl : V < 4294967296 := by rw [hV]; exact hp
 have SR := hide1 (fun W h => x_setRegister mb rb (X.withB B1) hx32 i.rd (ldvD i.op u) hrd W h)
 have eL : ldvD i.op V = V := by unfold ldvD; rw [if_neg hs]
 rw [<- hV] at SR |-
 rw [eL] at SR |-
 have eV : (u : Int) = (V : Int) := by rw [hV]
 have q11 : (i.op == 11) = false := by simp; omega
 have q12 : (i.op == 12) = false := by simp; omega
 obtain ⟨op, rd, rs1, rs2, im, ln⟩ := i
 dsimp only at *
 unfold excA
 clear hw hX hi htk hsp hle hok hXB hnv hnn hva hse hV hp eL r1ok r1lt r1len hs hx32 hrd sps
 go_enter func199, ntmps199
 go_upto_region 1 with fail
 go_quiet ((first | (go_at_call 39; first | exact Calls.quiet_of_same (A1.out _ hwa) | exact Calls.quiet_of_same (A1.out _ (hide1 (hwa.out.drewN _))) | exact Calls.quiet_of_same (A1.out _ (hide1 hwa.out.drew))) | (go_at_call 135; exact Calls.quiet_of_same (WD.out _))))
 go_wp2_with (go_at_call 268; refine (AS.out _).mono ?_; rintro o w2 ⟨rfl, rfl⟩)
 refine (RE.out _ (hide1 (hwa.out.drewN _))).mono ?_
 rintro o w1 ⟨rfl, hx1, hk1⟩
 obtain ⟨ic0w1, ic1w1, ic2w1, ic3w1, ic4w1, ic5w1, ifw1, izw1, izw11, inw11, izw12, inw12, izw13, inw13, izw14, inw14⟩ : Zc6 w1 w.heap.size op rd rs1 rs2 im ln := zq157
 obtain ⟨rc0w1, rc1w1, rfw1, rzw1, rzw11, rnw11, rzw12, rnw12, rzw13, rnw13, rzw14, rnw14⟩ : Zc2 w1 (w.heap.size + 1) 0 0 := zq158
 have hx1a := hide1 ((((hx1.alloc (.cells #[.int .i64 pa1, .int .i64 n1] 231)).alloc (.cells #[.int .i64 pa2, .int .i64 0] 231)).alloc (.cells #[.int .i64 (-1), .int .i64 0] 118)).alloc (.cells #[.int .i64 (-1), .int .i64 0] 118))
 go_wp2_with (first | (go_at_call 82; refine (x_none _ _ _).mono ?_; rintro o wn ⟨rfl, rfl⟩))
 refine (R1.out _ hx1a).mono ?_
 rintro o w2 ⟨rfl, hx2, hk2⟩
 obtain ⟨ic0w2, ic1w2, ic2w2, ic3w2, ic4w2, ic5w2, ifw2, izw2, izw21, inw21, izw22, inw22, izw23, inw23, izw24, inw24⟩ : Zc6 w2 w.heap.size op rd rs1 rs2 im ln := zq159
 obtain ⟨rc0w2, rc1w2, rfw2, rzw2, rzw21, rnw21, rzw22, rnw22, rzw23, rnw23, rzw24, rnw24⟩ : Zc2 w2 (w.heap.size + 1) 0 0 := zq160
 obtain ⟨fc0w2, fc1w2, ffw2, fzw2, fzw21, fnw21, fzw22, fnw22, fzw23, fnw23, fzw24, fnw24⟩ : Zc2 w2 w1.heap.size pa1 n1 := zq161
 obtain ⟨sc0w2, sc1w2, sfw2, szw2, szw21, snw21, szw22, snw22, szw23, snw23, szw24, snw24⟩ : Zc2 w2 (w1.heap.size + 1) pa2 0 := zq162
 go_wp2_with fail
 refine (x_read_0 mb pa2 _).mono ?_
 rintro o w3 ⟨rfl, hk3⟩
 have hx3 := hx2.kept hk3
 exact zq275
theorem x_load_y1s (mb rb X) (hX : XOk X) (i : NI) (hi : NIOk i) (hf : (reachD X.b (xC X) (vaD X i) (nD i.op) 1).1.fault = 0) (h2 : (reachD X.b (xC X) (vaD X i) (nD i.op) 1).1.n2 = 0) (hs : i.op = 11 \/ i.op = 12) (w) (hw : Hid (XAt w mb rb X)) :
 CX 199 #[.pointer (some ⟨mb, 0, none⟩), niV i] (excA (ldX X i).1.1 (ldX X i).1.2) [mb, rb] mb rb ((ldX X i).2) w := by
 have hlt := hw.out.lt
 have hrlt := hw.out.rlt
 have hlt' : ¬ mb = w.heap.size := by omega
 have i0 := hi.im0
 have i1 := hi.im1
 have ha := hX.xr i.rs1
 have A1 := hide1 (fun W h => x_register mb rb X i.rs1 hi.rs1 W h)
 have hwa : Hid (XAt ((w.alloc (niC i)).alloc (.cells #[.int .i64 0, .int .i64 0] 118)) mb rb X) := zq22
 have hva : vaD X i < 4294967296 := zq51
 have hnn := nD_le i.op
 have RE := hide1 (fun W h => x_reach mb rb X hX (vaD X i) (nD i.op) 1 hva hnn.1 hnn.2 (.inr (.inl rfl)) W h)
 have AS : Hid (∀ W, CS 268 #[.int .i64 i.op] (.int .i64 (nD i.op)) W) := zq52
 have WD : Hid (∀ W, CS 135 #[.int .i64 ((X.x.getD i.rs1 0 : Int) + i.im)] (.int .i64 (vaD X i)) W) := zq53
 have wr : IntKind.i64.wrap ((X.x.getD i.rs1 0 : Int) + i.im) = (X.x.getD i.rs1 0 : Int) + i.im := zq9
 have hok := reach_ok hX.b (xC X) (vaD X i) (nD i.op) 1
 have hsp := reach_sp X.b (xC X) (vaD X i) (nD i.op) 1 hva hnn.1
 have htk := reach_takes X.b (xC X) (vaD X i) (nD i.op) 1
 have hle := reach_len X.b (xC X) (vaD X i) (nD i.op) 1
 unfold ldX ldF
 obtain ⟨S, hS⟩ := zn1 (reachD X.b (xC X) (vaD X i) (nD i.op) 1)
 simp only [<- hS] at RE hok hsp htk hle hf h2 |-
 obtain ⟨va, hvv⟩ := zn1 (vaD X i)
 obtain ⟨n, hnv⟩ := zn1 (nD i.op)
 obtain ⟨a, hae⟩ := zn1 (X.x.getD i.rs1 0)
 simp only [<- hvv] at RE WD
 simp only [<- hnv] at RE AS hsp hnn
 simp only [<- hae] at A1 WD wr ha
 clear hS hvv hae
 obtain ⟨⟨pa1, n1, pa2, n2, ft, wh⟩, B⟩ := S
 have hXB := XS.okB hX hok
 rw [<- hle] at htk
 dsimp only at RE hok hsp htk hle hf h2 hXB |-
 rw [if_pos hf]
 subst hf
 have htk := htk rfl
 have hx32 := hX.x
 have hrd := hi.rd
 have sp1 := hsp.n1 rfl
 have sps := hsp.sum rfl
 have spp1 := hsp.pa1
 have spp2 := hsp.pa2
 dsimp only at sp1 sps spp1 spp2
 subst h2
 unfold niC at hwa
 unfold niV
 rw [show spV ⟨pa1, n1, pa2, 0, 0, wh⟩ 1 = .tuple #[.agg #[.int .i64 pa1, .int .i64 n1], .agg #[.int .i64 pa2, .int .i64 0], .agg #[.int .i64 (-1), .int .i64 0]] from rfl] at RE
 have R1 := hide1 (fun W h => x_read mb rb (X.withB B) hok pa1 n1 spp1 sp1 (by omega) htk.1 W h)
 have r1ok := readD_ok hok pa1 n1
 have r1lt := readD_lt hok pa1 n1 sp1
 have r1len := readD_len B pa1 n1
 have eB : (X.withB B).b = B := rfl
 rw [eB] at R1
 unfold loadD
 dsimp only
 rw [if_neg (by omega)]
 obtain ⟨T1, hT1⟩ := zn1 (readD B pa1 n1)
 simp only [<- hT1] at R1 r1ok r1lt  |-
 clear hT1
 obtain ⟨u, B1⟩ := T1
 have hBB : (X.withB B).withB B1 = X.withB B1 := rfl
 rw [hBB] at R1
 obtain ⟨s, hse⟩ := zn1 (8 * n1)
 have hs64 : s <= 32 := by omega
 have e8 : (8 : Int) * (n1 : Int) = (s : Int) := by omega
 have hp : u < 4294967296 := zq59
 obtain ⟨V, hV⟩ := zn1 (u)
 have hVl : V < 4294967296 := by rw [hV]; exact hp
 have SR := hide1 (fun W h => x_setRegister mb rb (X.withB B1) hx32 i.rd (ldvD i.op u) hrd W h)
 have EX : Hid (∀ W, CS 270 #[.int .i64 V, .int .i64 (nD i.op)] (.int .i64 (xextD V (xaccD i.op))) W) := zq73
 have W2 := hide1 (x_word (xextD V (xaccD i.op)))
 have eL : ldvD i.op V = wordN (xextD V (xaccD i.op)) := by unfold ldvD; rw [if_pos hs]
 rw [<- hV] at SR |-
 rw [<- hnv] at EX
 rw [eL] at SR |-
 obtain ⟨xv, hxv⟩ := zn1 (xextD V (xaccD i.op))
 simp only [<- hxv] at EX W2 SR |-
 obtain ⟨yv, hyv⟩ := zn1 (wordN xv)
 simp only [<- hyv] at W2 SR |-
 have eV : (u : Int) = (V : Int) := by rw [hV]
 obtain ⟨op, rd, rs1, rs2, im, ln⟩ := i
 dsimp only at *
 unfold excA
 clear hw hX hi htk hsp hle hok hXB hnv hnn hva hse hV hp eL r1ok r1lt r1len hxv hyv hx32 hrd sps
 rcases hs with hs | hs
 . have q11 : (op == 11) = true := by simp [hs]
   have q12 : (op == 12) = false := by simp [hs]
   exact zq276
 . have q11 : (op == 11) = false := by simp [hs]
   have q12 : (op == 12) = true := by simp [hs]
   exact zq276
end
end Go.Proofs.YtmlgonbhoknoiabGreatDoor
