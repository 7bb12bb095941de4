import Derived.Test.YtmlgonbhoknoiabGreatDoorYAH
set_option maxHeartbeats 8000000
set_option linter.all false
namespace Go.Proofs.YtmlgonbhoknoiabGreatDoor
open Go.RowKit Go.Proofs.Tryz
section
attribute [local go_sem ↓] Go.wp_at_zero Go.wp_at_succ
theorem x_Flush (mb : Nat) (w : World) :
 CS 61 #[.pointer (some ⟨mb, 0, none⟩)] (.tuple #[]) w := by
 go_enter func61, ntmps61
 exact zq295
theorem x_Reg_no (mb rb : Nat) (X : XS) (i : Int) (h : i < 0 \/ 32 <= i) (w) (hw : Hid (XAt w mb rb X)) :
 CS 25 #[.pointer (some ⟨mb, 0, none⟩), .int .i64 i] (.tuple #[.int .i64 0, .int .i64 2]) w := by
 rcases h with h | h
 . have q : decide (i < 0) = true := by simp [h]
   exact zq323
 . have q : decide (i < 0) = false := by simp; omega
   have q2 : decide (i >= 32) = true := by simp; omega
   have q3 : decide (32 <= i) = true := by simp; omega
   exact zq323
theorem x_Reg (mb rb : Nat) (X : XS) (i : Nat) (hi : i < 32) (w) (hw : Hid (XAt w mb rb X)) :
 CS 25 #[.pointer (some ⟨mb, 0, none⟩), .int .i64 i] (.tuple #[.int .i64 (X.x.getD i 0 : Nat), .int .i64 0]) w := by
 have RG := hide1 (x_register mb rb X i hi w hw)
 have q : decide ((i : Int) < 0) = false := by simp
 have q2 : decide ((i : Int) >= 32) = false := by simp; omega
 have q3 : decide (32 <= (i : Int)) = false := by simp; omega
 have q3' : decide (32 <= i) = false := by simp; omega
 clear hi
 go_enter func25, ntmps25
 go_wp2_with (go_at_call 39; refine RG.out.mono ?_; rintro o w1 ⟨rfl, rfl⟩)
 exact zq324
def xcsrE (X : XS) (n : Int) : Nat × Int := if (rcsD X n).2 = true then ((rcsD X n).1, 0) else (0, 2)
theorem x_Csr (mb rb X) (hX : XOk X) (n : Int) (w) (hw : Hid (XAt w mb rb X)) :
 CK 144 #[.pointer (some ⟨mb, 0, none⟩), .int .i64 n] (.tuple #[.int .i64 ((xcsrE X n).1 : Nat), .int .i64 (xcsrE X n).2]) w := by
 have RC := hide1 (x_readCsr mb rb X hX n w hw)
 unfold xcsrE
 obtain ⟨⟨v, b⟩, hR⟩ : ∃ r, r = rcsD X n := ⟨_, rfl⟩
 simp only [<- hR] at RC |-
 clear hR hX
 cases b
 . exact zq325
 . exact zq325
end
def bndX (c : UInt8) (q : List UInt8) : Nat := if Pic.cnt (· == c) q = 0 then 0 else if Pic.cnt (· == c) q = 3 then 15 else 2 ^ Pic.cnt (· == c) q - 1
theorem reg_bndX (s : ByteArray) (c : UInt8) (W : Nat) : regOf s c W <= bndX c (Pic.rv s.data.toList s.size) := by
 have h := Pic.val_lt (· == c) (Pic.rv s.data.toList s.size) W
 unfold regOf bndX
 exact zq326
def rowNI (t : Int × ByteArray × Int) : Bool :=
 let q := Pic.rv t.2.1.data.toList t.2.1.size
 decide (0 <= toldRd t.2.2) && (decide ((bndX 68 q : Int) + bndX 66 q + toldRd t.2.2 <= 31) && (decide (0 <= toldRs1 t.2.2) && (decide ((bndX 83 q : Int) + bndX 66 q + toldRs1 t.2.2 <= 31) && (decide (bndX 84 q <= 31) && (decide (Pic.most q < 2147483648) && (decide (Pic.high q < 2147483648) && (decide (t.2.1.size = 32) || decide (t.2.1.size = 16))))))))
theorem longs_ni : ((List.range 71).all fun n => n == 0 || rowNI (Tab.longRow n)) = true := by decide +kernel
theorem shorts_ni : ((List.range 27).all fun n => n == 0 || rowNI (Tab.shortRow n)) = true := by decide +kernel
theorem imm_ni (s : ByteArray) (neg : Bool) (W : Nat) (h1 : Pic.most (Pic.rv s.data.toList s.size) < 2147483648) (h2 : Pic.high (Pic.rv s.data.toList s.size) < 2147483648) : -4294967296 <= immOf s neg W /\ immOf s neg W < 4294967296 := zq327
def niOf (i : Ins) : NI := ⟨i.op, i.rd.toNat, i.rs1.toNat, i.rs2.toNat, i.im, i.ln.toNat⟩
def InsNI (i : Ins) : Prop := NIOk (niOf i) /\ insV i = niV (niOf i)
theorem insNI_of (i : Ins) (a0 : 0 <= i.rd) (a1 : i.rd < 32) (b0 : 0 <= i.rs1) (b1 : i.rs1 < 32) (c0 : 0 <= i.rs2) (c1 : i.rs2 < 32) (d0 : -4294967296 <= i.im) (d1 : i.im < 4294967296) (e : i.ln = 2 \/ i.ln = 4) : InsNI i := by
 obtain ⟨op, rd, rs1, rs2, im, ln⟩ := i
 dsimp only at *
 refine ⟨⟨?_, ?_, ?_, d0, d1, ?_⟩, ?_⟩
 . show rd.toNat < 32; omega
 . show rs1.toNat < 32; omega
 . show rs2.toNat < 32; omega
 . show ln.toNat = 2 \/ ln.toNat = 4; omega
 . unfold insV niV niOf
   dsimp only
   rw [Int.toNat_of_nonneg a0, Int.toNat_of_nonneg b0, Int.toNat_of_nonneg c0, Int.toNat_of_nonneg (by omega)]
theorem row_ni (t : Int × ByteArray × Int) (h : rowNI t = true) (W : Nat) : InsNI (rowIns t W) := by
 unfold rowNI at h
 simp only [Bool.and_eq_true, Bool.or_eq_true, decide_eq_true_eq] at h
 obtain ⟨h1, h2, h3, h4, h5, h6, h7, h8⟩ := h
 have r1 := reg_bndX t.2.1 68 W
 have r2 := reg_bndX t.2.1 66 W
 have r3 := reg_bndX t.2.1 83 W
 have r4 := reg_bndX t.2.1 84 W
 have im := imm_ni t.2.1 (hasB t.2.2 1) W h6 h7
 unfold rowIns
 refine insNI_of _ ?_ ?_ ?_ ?_ ?_ ?_ im.1 im.2 ?_ <;> dsimp only <;> omega
theorem scan_some (f : Nat -> Option Ins) (P : Ins -> Prop) : ∀ (m n : Nat), (∀ k, n <= k -> k < n + m -> ∀ i, f k = some i -> P i) -> ∀ i, scan f n m = some i -> P i
 | 0, n, h, i, hs => by simp [scan] at hs
 | m + 1, n, h, i, hs => by
  rw [scan_step] at hs
  cases hf : f n with
  | some j =>
   rw [hf] at hs
   simp only [Option.some.injEq] at hs
   exact h n (Nat.le_refl _) (by omega) i (by rw [hf, hs])
  | none =>
   rw [hf] at hs
   exact scan_some f P m (n + 1) (fun k h1 h2 => h k (by omega) (by omega)) i hs
theorem rows_of {f : Nat -> Bool} {m : Nat} (h : ((List.range m).all fun n => n == 0 || f n) = true) (n : Nat) (h1 : 1 <= n) (h2 : n < m) : f n = true := by
 have h := List.all_eq_true.1 h n (List.mem_range.2 h2)
 have e : (n == 0) = false := by simp; omega
 rw [e, Bool.false_or] at h
 exact h
theorem size_in (x : Int) (h : ¬ sizeOf x = 0) : sizeOf x = 2 \/ sizeOf x = 4 := by
 unfold sizeOf at h |-
 split at h
 . exact absurd rfl h
 . next h1 =>
   rw [if_neg h1]
   split at h
   . next h2 => rw [if_pos h2]; exact .inr rfl
   . next h2 =>
     rw [if_neg h2]
     split at h
     . next h3 => rw [if_pos h3]; exact .inl rfl
     . exact absurd rfl h
theorem decode_all (P : Ins -> Prop) (f : Int × ByteArray × Int -> Bool) (hl : ((List.range 71).all fun n => n == 0 || f (Tab.longRow n)) = true) (hr : ((List.range 27).all fun n => n == 0 || f (Tab.shortRow n)) = true) (hf : ∀ t, f t = true -> ∀ W, P (rowIns t W)) (h0 : ∀ z, z = 2 \/ z = 4 -> P ⟨0, 0, 0, 0, 0, z⟩) (x : Int) (h : (decodeD x).2 = 0) : P (decodeD x).1 := by
 unfold decodeD at h |-
 by_cases h0' : sizeOf x = 0
 . rw [if_pos h0'] at h; exact absurd h (by decide)
 rw [if_neg h0']
 have hs := size_in x h0'
 cases hc : scan (rowMeans (sizeOf x) x.toNat) 1 (rowCount (sizeOf x)).toNat with
 | none => exact h0 _ hs
 | some i =>
  refine scan_some _ P _ _ (fun k k1 k2 j hj => ?_) i hc
  unfold rowMeans at hj
  split at hj
  . simp only [Option.some.injEq] at hj
    rw [<- hj]
    refine hf _ ?_ _
    rcases hs with e | e
    . rw [e] at k2 |-
      rw [show (rowCount 2).toNat = 26 from rfl] at k2
      exact rows_of (f := fun n => f (Tab.shortRow n)) hr k k1 (by omega)
    . rw [e] at k2 |-
      rw [show (rowCount 4).toNat = 70 from rfl] at k2
      exact rows_of (f := fun n => f (Tab.longRow n)) hl k k1 (by omega)
  . cases hj
theorem decode_ni (x : Int) (h : (decodeD x).2 = 0) : InsNI (decodeD x).1 :=
 decode_all InsNI rowNI longs_ni shorts_ni row_ni (fun z hz => insNI_of _ (Int.le_refl 0) (show (0 : Int) < 32 by decide) (Int.le_refl 0) (show (0 : Int) < 32 by decide) (Int.le_refl 0) (show (0 : Int) < 32 by decide) (show (-4294967296 : Int) <= 0 by decide) (show (0 : Int) < 4294967296 by decide) hz) x h
section
attribute [local go_sem ↓] Go.wp_at_zero Go.wp_at_succ
theorem x_Peek_no (mb rb X) (hX : XOk X) (off n : Int) (hn : n <= 9223372036854775807) (h : n < 0 \/ off < 0 \/ (X.b.ram.length : Int) - n < off) (w) (hw : Hid (XAt w mb rb X)) :
 CS 111 #[.pointer (some ⟨mb, 0, none⟩), .int .i64 off, .int .i64 n] (.tuple #[.string ⟨#[]⟩, .int .i64 2]) w := by
 have c0 := hw.out.c0
 have hl := hX.b.ram
 by_cases h1 : n < 0
 . have q : decide (n < 0) = true := by simp [h1]
   clear h h1 hn hl hX
   exact zq328
 have q : decide (n < 0) = false := by simp; omega
 by_cases h2 : off < 0
 . have q2 : decide (off < 0) = true := by simp [h2]
   clear h h1 h2 hn hl hX
   exact zq328
 have q2 : decide (off < 0) = false := by simp; omega
 have e : IntKind.i64.wrap ((X.b.ram.length : Int) - n) = (X.b.ram.length : Int) - n := zq115
 have q3 : decide ((X.b.ram.length : Int) - n < off) = true := by simp; omega
 have q4 : decide (off > (X.b.ram.length : Int) - n) = true := by simp; omega
 clear h h1 h2 hl hX hn
 exact zq328
set_option maxRecDepth 100000 in
theorem x_Peek (mb rb X) (hX : XOk X) (off n : Nat) (h : off + n <= X.b.ram.length) (w) (hw : Hid (XAt w mb rb X)) :
 CS 111 #[.pointer (some ⟨mb, 0, none⟩), .int .i64 off, .int .i64 n] (.tuple #[.string (pkB X.b.ram off n), .int .i64 0]) w := by
 have c0 := hw.out.c0
 have hr := hX.b.ram
 have q1 : decide ((off : Int) < 0) = false := by simp
 have q2 : decide ((n : Int) < 0) = false := by simp
 have q3 : decide ((X.b.ram.length : Int) < (n : Int)) = false := by simp; omega
 have q4 : decide ((X.b.ram.length : Int) - n < (off : Int)) = false := by simp; omega
 have hpk : ∃ o2, (∀ w, (Instr.slice 64 (.slice (some ⟨rb, 0, none⟩) X.b.ram.length X.b.ram.length) (some (.int .i64 (off : Int))) (some (.int .i64 ((off : Int) + n))) none).run prog w = .ok (.slice (some ⟨rb, o2, none⟩) n (X.b.ram.length - off)) w) /\ (n = 0 \/ o2 = off) := by
  have hr : ∀ w, (Instr.slice 64 (.slice (some ⟨rb, 0, none⟩) X.b.ram.length X.b.ram.length) (some (.int .i64 (off : Int))) (some (.int .i64 ((off : Int) + n))) none).run prog w = .ok (.slice (if X.b.ram.length = off then some ⟨rb, 0, none⟩ else some ⟨rb, off, none⟩) n (X.b.ram.length - off)) w := by
   intro w
   have hu : prog.underlying 64 = some (.slice (prog.elem 64)) := by kernel_rfl
   have h := run_slice_lh (P := prog) w 64 (some ⟨rb, 0, none⟩) X.b.ram.length X.b.ram.length hu .i64 .i64 (off : Int) ((off : Int) + n) (by omega) (by omega) (by omega)
   rw [h]
   have hz : (_root_.Go.sizeOf (prog.elem 64)).run prog w = .ok 1 w := by kernel_rfl
   rw [hz]
   simp only [Result.andThen, sliced]
   rw [show ((off : Int)).toNat = off by omega, show ((off : Int) + n).toNat = off + n by omega, Nat.mul_one, Option.map_some, show (⟨rb, 0, none⟩ : Addr).add off = ⟨rb, off, none⟩ by (simp [Addr.add]; intro h; exact h.symm), show off + n - off = n by omega]
  by_cases hc : X.b.ram.length = off
  . exact ⟨0, fun w => by rw [hr w, if_pos hc], .inl (by omega)⟩
  . exact ⟨off, fun w => by rw [hr w, if_neg hc], .inr rfl⟩
 obtain ⟨o2, hsl, ho2⟩ := hpk
 have hcv : (convert 64 9 (.slice (some ⟨rb, o2, none⟩) n (X.b.ram.length - off))).run prog w = .ok (.string (pkB X.b.ram off n)) w := by
  refine run_convert_bytes_arg w 64 5 Tryz.underlying64 Tryz.underlying5 rb o2 n (X.b.ram.length - off) _ (by simp; omega) (fun i hi => ?_) 9 Tryz.underlying9
  rcases ho2 with h0 | rfl
  . omega
  . rw [hw.out.ram (o2 + i) (by omega)]
    simp [List.getD, List.getElem?_map, List.getElem?_take, List.getElem?_drop, hi, List.getElem?_eq_getElem (show o2 + i < X.b.ram.length by omega)]
 obtain ⟨S, hS⟩ := zn1 (pkB X.b.ram off n)
 rw [<- hS] at hcv |-
 clear hS ho2
 obtain ⟨L, hL⟩ := zn1 (X.b.ram.length)
 rw [<- hL] at c0 hr h q3 q4 hsl hcv
 clear hL hw hX
 exact zq328
theorem x_instruct_f (mb rb X) (hX : XOk X) (hf : ¬ (fetchD X.b (xC X) X.pc).1.f = 0) (w) (hw : Hid (XAt w mb rb X)) :
 CX 81 #[.pointer (some ⟨mb, 0, none⟩)] (.tuple #[niV ⟨0, 0, 0, 0, 0, 0⟩, excA (xfauD (fetchD X.b (xC X) X.pc).1.f 0) (fetchD X.b (xC X) X.pc).1.at']) [mb, rb] mb rb (X.withB (fetchD X.b (xC X) X.pc).2) w := by
 have hlt := hw.out.lt
 have hrlt := hw.out.rlt
 have hlt' : ¬ mb = w.heap.size := by omega
 have hwa : Hid (XAt ((w.alloc (.cells #[.int .i64 0, .int .i64 0, .int .i64 0, .int .i64 0, .int .i64 0, .int .i64 0] 60)).alloc (.cells #[.int .i64 0, .int .i64 0] 118)) mb rb X) := zq22
 have FE := hide1 (fun W h => x_fetch mb rb X hX W h)
 obtain ⟨⟨T, B⟩, hT⟩ : ∃ T, T = fetchD X.b (xC X) X.pc := ⟨_, rfl⟩
 simp only [<- hT] at FE hf |-
 try dsimp only at FE hf |-
 have ev : fwV T = .tuple #[.int .i64 0, .agg #[.int .i64 (xfauD T.f 0), .int .i64 T.at']] := by unfold fwV; rw [if_neg hf]
 simp only [ev] at FE
 have hn := xfau_ne T.f 0
 have e0 : ((0 : Nat) : Int) = 0 := rfl
 obtain ⟨c, hc⟩ := zn1 (xfauD T.f 0)
 obtain ⟨t, ht⟩ := zn1 (T.at')
 simp only [<- hc, <- ht] at FE hn |-
 unfold niV excA
 dsimp only
 clear hX hT ev hc ht hf e0
 go_enter func81, ntmps81
 go_wp2_with fail
 refine (FE.out _ hwa).mono ?_
 rintro o w1 ⟨rfl, hx1, hk1⟩
 obtain ⟨_, _, _, _, _, _, _, _, _, _, _, _, _, _, _, _⟩ : Zc6 w1 w.heap.size 0 0 0 0 0 0 := zq168
 obtain ⟨rc0w1, rc1w1, rfw1, rzw1, rzw11, rnw11, rzw12, rnw12, rzw13, rnw13, rzw14, rnw14⟩ : Zc2 w1 (w.heap.size + 1) 0 0 := zq167
 go_upto_region 3 with (go_at_call 82; refine (x_none _ _ _).mono ?_; rintro o wn ⟨rfl, rfl⟩)
 go_region
 all_goals
  go_wp2_with fail
  refine bodyPost_ret (v := .tuple #[.agg #[.int .i64 0, .int .i64 0, .int .i64 0, .int .i64 0, .int .i64 0, .int .i64 0], .agg #[.int .i64 c, .int .i64 t]]) zq525 rfl ⟨rfl, ?_, ?_⟩
  . refine hx1.more (G := [w.heap.size, w.heap.size + 1]) ?_ (by simp; omega) (by simp; omega)
    exact zq273
  . exact zq274
theorem x_instruct_n (mb rb X) (hX : XOk X) (hf : (fetchD X.b (xC X) X.pc).1.f = 0) (hd : ¬ (decodeD (fetchD X.b (xC X) X.pc).1.w).2 = 0) (w) (hw : Hid (XAt w mb rb X)) :
 CX 81 #[.pointer (some ⟨mb, 0, none⟩)] (.tuple #[niV ⟨0, 0, 0, 0, 0, 0⟩, excA 2 (fetchD X.b (xC X) X.pc).1.w]) [mb, rb] mb rb (X.withB (fetchD X.b (xC X) X.pc).2) w := by
 have hlt := hw.out.lt
 have hrlt := hw.out.rlt
 have hlt' : ¬ mb = w.heap.size := by omega
 have hwa : Hid (XAt ((w.alloc (.cells #[.int .i64 0, .int .i64 0, .int .i64 0, .int .i64 0, .int .i64 0, .int .i64 0] 60)).alloc (.cells #[.int .i64 0, .int .i64 0] 118)) mb rb X) := zq22
 have FE := hide1 (fun W h => x_fetch mb rb X hX W h)
 obtain ⟨⟨T, B⟩, hT⟩ : ∃ T, T = fetchD X.b (xC X) X.pc := ⟨_, rfl⟩
 simp only [<- hT] at FE hf hd |-
 try dsimp only at FE hf hd |-
 have ev : fwV T = .tuple #[.int .i64 T.w, .agg #[.int .i64 (-1), .int .i64 0]] := by unfold fwV; rw [if_pos hf]
 simp only [ev] at FE
 obtain ⟨v, hv⟩ := zn1 (T.w)
 simp only [<- hv] at FE hd |-
 have DE := hide1 (fun W => i_Decode (v : Int) W)
 obtain ⟨⟨⟨i0, i1, i2, i3, i4, i5⟩, e⟩, hD⟩ : ∃ D, D = decodeD (v : Int) := ⟨_, rfl⟩
 simp only [<- hD] at DE hd
 try dsimp only at DE hd
 unfold insV at DE
 have qe : (e != 0) = true := by simp [hd]
 unfold niV excA
 dsimp only
 clear hX hT ev hv hf hD hd
 go_enter func81, ntmps81
 go_wp2_with fail
 refine (FE.out _ hwa).mono ?_
 rintro o w1 ⟨rfl, hx1, hk1⟩
 obtain ⟨_, _, _, _, _, _, _, _, _, _, _, _, _, _, _, _⟩ : Zc6 w1 w.heap.size 0 0 0 0 0 0 := zq168
 obtain ⟨rc0w1, rc1w1, rfw1, rzw1, rzw11, rnw11, rzw12, rnw12, rzw13, rnw13, rzw14, rnw14⟩ : Zc2 w1 (w.heap.size + 1) 0 0 := zq167
 go_wp2_with (go_at_call 82; refine (x_none _ _ _).mono ?_; rintro o wn ⟨rfl, rfl⟩)
 refine (DE.out _).mono ?_
 rintro o w2 ⟨rfl, hb2⟩
 have hk2 := Below.kept hb2 []
 obtain ⟨_, _, _, _, _, _, _, _, _, _, _, _, _, _, _, _⟩ : Zc6 w2 w.heap.size 0 0 0 0 0 0 := zq173
 obtain ⟨rc0w2, rc1w2, rfw2, rzw2, rzw21, rnw21, rzw22, rnw22, rzw23, rnw23, rzw24, rnw24⟩ : Zc2 w2 (w.heap.size + 1) 0 0 := zq169
 go_wp2_with fail
 refine bodyPost_ret (v := .tuple #[.agg #[.int .i64 0, .int .i64 0, .int .i64 0, .int .i64 0, .int .i64 0, .int .i64 0], .agg #[.int .i64 2, .int .i64 v]]) zq525 rfl ⟨rfl, ?_, ?_⟩
 . refine ((hx1.alloc _).alloc _ |>.kept hk2).more (G := [w.heap.size, w.heap.size + 1]) ?_ (by simp; omega) (by simp; omega)
   repeat (first | (with_reducible exact Kept.refl _ _) | (with_reducible refine Kept.setCell ?_ (Or.inl (by simp; done)) _) | (with_reducible refine Kept.setCell ?_ (Or.inr zq492) _) | (with_reducible refine Kept.drew ?_) | (with_reducible refine Kept.alloc ?_ _))
 . exact zq271
theorem XAt.pcS {w : World} {mb rb : Nat} {X : XS} {p : Nat} (h : XAt w mb rb X) : XAt (w.setCell ⟨mb, 33, none⟩ (.int .i64 p)) mb rb { X with pc := p } := h.set 33 _ rfl rfl (by omega)
theorem XAt.other {w : World} {mb rb : Nat} {X : XS} (b k : Nat) (v : Value) (h : XAt w mb rb X) (h1 : mb ≠ b) (h2 : rb ≠ b) : XAt (w.setCell ⟨b, k, none⟩ v) mb rb X := h.more (G := [b]) ((Kept.refl _ _).setCell (.inl (by simp)) _) (by simp; exact h1) (by simp; exact h2)
theorem fetch_ok {B : BusS} (hB : BusOk B) (C : CsrS) (pc : Nat) : BusOk (fetchD B C pc).2 := by
 have h1 := half_ok hB C pc
 have h2 := half_ok h1 C ((pc + 2) % 4294967296)
 unfold fetchD
 repeat' split
 all_goals first | exact h2 | exact h1
theorem x_instruct_g (mb rb X) (hX : XOk X) (hf : (fetchD X.b (xC X) X.pc).1.f = 0) (hd : (decodeD (fetchD X.b (xC X) X.pc).1.w).2 = 0) (N : NI) (hN : N = niOf (decodeD (fetchD X.b (xC X) X.pc).1.w).1) (c : Int) (t : Nat) (Y : XS) (hY : croX (X.withB (fetchD X.b (xC X) X.pc).2) N (fetchD X.b (xC X) X.pc).1.w = ((c, t), Y)) (hc : ¬ c = -1) (w) (hw : Hid (XAt w mb rb X)) :
 CX 81 #[.pointer (some ⟨mb, 0, none⟩)] (.tuple #[niV ⟨0, 0, 0, 0, 0, 0⟩, excA c t]) [mb, rb] mb rb Y w := by
 have hlt := hw.out.lt
 have hrlt := hw.out.rlt
 have hlt' : ¬ mb = w.heap.size := by omega
 have hwa : Hid (XAt ((w.alloc (.cells #[.int .i64 0, .int .i64 0, .int .i64 0, .int .i64 0, .int .i64 0, .int .i64 0] 60)).alloc (.cells #[.int .i64 0, .int .i64 0] 118)) mb rb X) := zq22
 have FE := hide1 (fun W h => x_fetch mb rb X hX W h)
 have hok := fetch_ok hX.b (xC X) X.pc
 obtain ⟨⟨T, B⟩, hT⟩ : ∃ T, T = fetchD X.b (xC X) X.pc := ⟨_, rfl⟩
 simp only [<- hT] at FE hf hd hN hY hok |-
 try dsimp only at FE hf hd hN hY hok |-
 have ev : fwV T = .tuple #[.int .i64 T.w, .agg #[.int .i64 (-1), .int .i64 0]] := by unfold fwV; rw [if_pos hf]
 simp only [ev] at FE
 obtain ⟨v, hv⟩ := zn1 (T.w)
 simp only [<- hv] at FE hd hN hY |-
 have hni := decode_ni (v : Int) hd
 have DE := hide1 (fun W => i_Decode (v : Int) W)
 simp only [hd, hni.2, <- hN] at DE
 have hNO : NIOk N := by rw [hN]; exact hni.1
 have hXB := XS.okB hX hok
 have NP := hide1 (fun W h => x_nextPc mb rb (X.withB B) hXB N hNO W h)
 have CO := hide1 (fun W h => x_carryOut mb rb (X.withB B) hXB N hNO v W h)
 simp only [hY] at CO
 obtain ⟨Z, hZ⟩ := zn1 (X.withB B)
 simp only [<- hZ] at FE NP CO |-
 obtain ⟨p, hp⟩ := zn1 (npcD Z N)
 simp only [<- hp] at NP |-
 have qc : (c == -1) = false := by simp [hc]
 unfold niV at DE NP CO |-
 unfold excA at CO |-
 clear hX hT ev hv hf hd hni hN hNO hXB hok hY hp hZ
 obtain ⟨op, rd, rs1, rs2, im, ln⟩ := N
 dsimp only at *
 clear hc
 go_enter func81, ntmps81
 go_wp2_with fail
 refine (FE.out _ hwa).mono ?_
 rintro o w1 ⟨rfl, hx1, hk1⟩
 obtain ⟨_, _, _, _, _, _, _, _, _, _, _, _, _, _, _, _⟩ : Zc6 w1 w.heap.size 0 0 0 0 0 0 := zq168
 obtain ⟨rc0w1, rc1w1, rfw1, rzw1, rzw11, rnw11, rzw12, rnw12, rzw13, rnw13, rzw14, rnw14⟩ : Zc2 w1 (w.heap.size + 1) 0 0 := zq167
 go_wp2_with (go_at_call 82; refine (x_none _ _ _).mono ?_; rintro o wn ⟨rfl, rfl⟩)
 refine (DE.out _).mono ?_
 rintro o w2 ⟨rfl, hb2⟩
 have hk2 := Below.kept hb2 []
 obtain ⟨_, _, _, _, _, _, _, _, _, _, _, _, _, _, _, _⟩ : Zc6 w2 w.heap.size 0 0 0 0 0 0 := zq173
 obtain ⟨rc0w2, rc1w2, rfw2, rzw2, rzw21, rnw21, rzw22, rnw22, rzw23, rnw23, rzw24, rnw24⟩ : Zc2 w2 (w.heap.size + 1) 0 0 := zq169
 obtain ⟨mc0w2, mc1w2, mfw2, mzw2, mzw21, mnw21, mzw22, mnw22, mzw23, mnw23, mzw24, mnw24⟩ : Zc2 w2 w1.heap.size (-1) 0 := zq170
 have hx2 := hide1 (((hx1.alloc _).alloc _ |>.kept hk2).alloc (.cells #[.int .i64 op, .int .i64 rd, .int .i64 rs1, .int .i64 rs2, .int .i64 im, .int .i64 ln] 60))
 go_wp2_with fail
 refine (NP.out _ hx2).mono ?_
 rintro o w3 ⟨rfl, hk3⟩
 obtain ⟨_, _, _, _, _, _, _, _, _, _, _, _, _, _, _, _⟩ : Zc6 w3 w.heap.size 0 0 0 0 0 0 := zq174
 obtain ⟨rc0w3, rc1w3, rfw3, rzw3, rzw31, rnw31, rzw32, rnw32, rzw33, rnw33, rzw34, rnw34⟩ : Zc2 w3 (w.heap.size + 1) 0 0 := zq175
 obtain ⟨_, _, _, _, _, _, _, _, _, _, _, _⟩ : Zc2 w3 w1.heap.size (-1) 0 := zq175
 obtain ⟨ic0w3, ic1w3, ic2w3, ic3w3, ic4w3, ic5w3, ifw3, izw3, izw31, inw31, izw32, inw32, izw33, inw33, izw34, inw34⟩ : Zc6 w3 w2.heap.size op rd rs1 rs2 im ln := zq176
 have hx3 := hide1 (hx2.out.kept hk3)
 go_wp2_with fail
 refine (CO.out _ hx3).mono ?_
 rintro o w4 ⟨rfl, hx4, hk4⟩
 obtain ⟨_, _, _, _, _, _, _, _, _, _, _, _, _, _, _, _⟩ : Zc6 w4 w.heap.size 0 0 0 0 0 0 := zq177
 obtain ⟨rc0w4, rc1w4, rfw4, rzw4, rzw41, rnw41, rzw42, rnw42, rzw43, rnw43, rzw44, rnw44⟩ : Zc2 w4 (w.heap.size + 1) 0 0 := zq165
 obtain ⟨_, _, _, _, _, _, _, _, _, _, _, _⟩ : Zc2 w4 w1.heap.size (-1) 0 := zq165
 obtain ⟨_, _, _, _, _, _, _, _, _, _, _, _, _, _, _, _⟩ : Zc6 w4 w2.heap.size op rd rs1 rs2 im ln := zq177
 have c33 := hx4.c33
 have hfr := hx4.fro
 have hl4 := hx4.lt
 go_upto_region 10 with (go_at_call 82; refine (x_none _ _ _).mono ?_; rintro o wn ⟨rfl, rfl⟩)
 go_region
 all_goals
  go_wp2_with fail
  refine bodyPost_ret (v := .tuple #[.agg #[.int .i64 0, .int .i64 0, .int .i64 0, .int .i64 0, .int .i64 0, .int .i64 0], .agg #[.int .i64 c, .int .i64 t]]) zq525 rfl ⟨rfl, ?_, ?_⟩
  . exact zq329
  . exact zq330
theorem x_instruct_y (mb rb X) (hX : XOk X) (hf : (fetchD X.b (xC X) X.pc).1.f = 0) (hd : (decodeD (fetchD X.b (xC X) X.pc).1.w).2 = 0) (N : NI) (hN : N = niOf (decodeD (fetchD X.b (xC X) X.pc).1.w).1) (c : Int) (t : Nat) (Y : XS) (hY : croX (X.withB (fetchD X.b (xC X) X.pc).2) N (fetchD X.b (xC X) X.pc).1.w = ((c, t), Y)) (hc : c = -1) (w) (hw : Hid (XAt w mb rb X)) :
 CX 81 #[.pointer (some ⟨mb, 0, none⟩)] (.tuple #[niV N, excA c t]) [mb, rb] mb rb ({ Y with pc := npcD (X.withB (fetchD X.b (xC X) X.pc).2) N }) w := by
 have hlt := hw.out.lt
 have hrlt := hw.out.rlt
 have hlt' : ¬ mb = w.heap.size := by omega
 have hwa : Hid (XAt ((w.alloc (.cells #[.int .i64 0, .int .i64 0, .int .i64 0, .int .i64 0, .int .i64 0, .int .i64 0] 60)).alloc (.cells #[.int .i64 0, .int .i64 0] 118)) mb rb X) := zq22
 have FE := hide1 (fun W h => x_fetch mb rb X hX W h)
 have hok := fetch_ok hX.b (xC X) X.pc
 obtain ⟨⟨T, B⟩, hT⟩ : ∃ T, T = fetchD X.b (xC X) X.pc := ⟨_, rfl⟩
 simp only [<- hT] at FE hf hd hN hY hok |-
 try dsimp only at FE hf hd hN hY hok |-
 have ev : fwV T = .tuple #[.int .i64 T.w, .agg #[.int .i64 (-1), .int .i64 0]] := by unfold fwV; rw [if_pos hf]
 simp only [ev] at FE
 obtain ⟨v, hv⟩ := zn1 (T.w)
 simp only [<- hv] at FE hd hN hY |-
 have hni := decode_ni (v : Int) hd
 have DE := hide1 (fun W => i_Decode (v : Int) W)
 simp only [hd, hni.2, <- hN] at DE
 have hNO : NIOk N := by rw [hN]; exact hni.1
 have hXB := XS.okB hX hok
 have NP := hide1 (fun W h => x_nextPc mb rb (X.withB B) hXB N hNO W h)
 have CO := hide1 (fun W h => x_carryOut mb rb (X.withB B) hXB N hNO v W h)
 simp only [hY] at CO
 obtain ⟨Z, hZ⟩ := zn1 (X.withB B)
 simp only [<- hZ] at FE NP CO |-
 obtain ⟨p, hp⟩ := zn1 (npcD Z N)
 simp only [<- hp] at NP |-
 have qc : (c == -1) = true := by simp [hc]
 unfold niV at DE NP CO |-
 unfold excA at CO |-
 clear hX hT ev hv hf hd hni hN hNO hXB hok hY hp hZ
 obtain ⟨op, rd, rs1, rs2, im, ln⟩ := N
 dsimp only at *
 clear hc
 go_enter func81, ntmps81
 go_wp2_with fail
 refine (FE.out _ hwa).mono ?_
 rintro o w1 ⟨rfl, hx1, hk1⟩
 obtain ⟨_, _, _, _, _, _, _, _, _, _, _, _, _, _, _, _⟩ : Zc6 w1 w.heap.size 0 0 0 0 0 0 := zq168
 obtain ⟨rc0w1, rc1w1, rfw1, rzw1, rzw11, rnw11, rzw12, rnw12, rzw13, rnw13, rzw14, rnw14⟩ : Zc2 w1 (w.heap.size + 1) 0 0 := zq167
 go_wp2_with (go_at_call 82; refine (x_none _ _ _).mono ?_; rintro o wn ⟨rfl, rfl⟩)
 refine (DE.out _).mono ?_
 rintro o w2 ⟨rfl, hb2⟩
 have hk2 := Below.kept hb2 []
 obtain ⟨_, _, _, _, _, _, _, _, _, _, _, _, _, _, _, _⟩ : Zc6 w2 w.heap.size 0 0 0 0 0 0 := zq173
 obtain ⟨rc0w2, rc1w2, rfw2, rzw2, rzw21, rnw21, rzw22, rnw22, rzw23, rnw23, rzw24, rnw24⟩ : Zc2 w2 (w.heap.size + 1) 0 0 := zq169
 obtain ⟨mc0w2, mc1w2, mfw2, mzw2, mzw21, mnw21, mzw22, mnw22, mzw23, mnw23, mzw24, mnw24⟩ : Zc2 w2 w1.heap.size (-1) 0 := zq170
 have hx2 := hide1 (((hx1.alloc _).alloc _ |>.kept hk2).alloc (.cells #[.int .i64 op, .int .i64 rd, .int .i64 rs1, .int .i64 rs2, .int .i64 im, .int .i64 ln] 60))
 go_wp2_with fail
 refine (NP.out _ hx2).mono ?_
 rintro o w3 ⟨rfl, hk3⟩
 obtain ⟨_, _, _, _, _, _, _, _, _, _, _, _, _, _, _, _⟩ : Zc6 w3 w.heap.size 0 0 0 0 0 0 := zq174
 obtain ⟨rc0w3, rc1w3, rfw3, rzw3, rzw31, rnw31, rzw32, rnw32, rzw33, rnw33, rzw34, rnw34⟩ : Zc2 w3 (w.heap.size + 1) 0 0 := zq175
 obtain ⟨_, _, _, _, _, _, _, _, _, _, _, _⟩ : Zc2 w3 w1.heap.size (-1) 0 := zq175
 obtain ⟨ic0w3, ic1w3, ic2w3, ic3w3, ic4w3, ic5w3, ifw3, izw3, izw31, inw31, izw32, inw32, izw33, inw33, izw34, inw34⟩ : Zc6 w3 w2.heap.size op rd rs1 rs2 im ln := zq176
 have hx3 := hide1 (hx2.out.kept hk3)
 go_wp2_with fail
 refine (CO.out _ hx3).mono ?_
 rintro o w4 ⟨rfl, hx4, hk4⟩
 obtain ⟨_, _, _, _, _, _, _, _, _, _, _, _, _, _, _, _⟩ : Zc6 w4 w.heap.size 0 0 0 0 0 0 := zq177
 obtain ⟨rc0w4, rc1w4, rfw4, rzw4, rzw41, rnw41, rzw42, rnw42, rzw43, rnw43, rzw44, rnw44⟩ : Zc2 w4 (w.heap.size + 1) 0 0 := zq165
 obtain ⟨_, _, _, _, _, _, _, _, _, _, _, _⟩ : Zc2 w4 w1.heap.size (-1) 0 := zq165
 obtain ⟨_, _, _, _, _, _, _, _, _, _, _, _, _, _, _, _⟩ : Zc6 w4 w2.heap.size op rd rs1 rs2 im ln := zq177
 have c33 := hx4.c33
 have hfr := hx4.fro
 have hl4 := hx4.lt
 go_upto_region 12 with (go_at_call 82; refine (x_none _ _ _).mono ?_; rintro o wn ⟨rfl, rfl⟩)
 go_region
 all_goals
  go_wp2_with fail
  refine bodyPost_ret (v := .tuple #[.agg #[.int .i64 op, .int .i64 rd, .int .i64 rs1, .int .i64 rs2, .int .i64 im, .int .i64 ln], .agg #[.int .i64 c, .int .i64 t]]) zq525 rfl ⟨rfl, ?_, ?_⟩
  . exact zq329
  . exact zq330
end
def ni0 : NI := ⟨0, 0, 0, 0, 0, 0⟩
def insR (X : XS) (N : NI) (v : Nat) : (NI × (Int × Nat)) × XS :=
 if (croX X N v).1.1 = -1 then ((N, (croX X N v).1), { (croX X N v).2 with pc := npcD X N }) else ((ni0, (croX X N v).1), (croX X N v).2)
def insX (X : XS) : (NI × (Int × Nat)) × XS :=
 if (fetchD X.b (xC X) X.pc).1.f = 0 then
  (if (decodeD (fetchD X.b (xC X) X.pc).1.w).2 = 0 then insR (X.withB (fetchD X.b (xC X) X.pc).2) (niOf (decodeD (fetchD X.b (xC X) X.pc).1.w).1) (fetchD X.b (xC X) X.pc).1.w
   else ((ni0, (2, (fetchD X.b (xC X) X.pc).1.w)), X.withB (fetchD X.b (xC X) X.pc).2))
 else ((ni0, (xfauD (fetchD X.b (xC X) X.pc).1.f 0, (fetchD X.b (xC X) X.pc).1.at')), X.withB (fetchD X.b (xC X) X.pc).2)
theorem x_instruct (mb rb X) (hX : XOk X) (w) (hw : Hid (XAt w mb rb X)) :
 CX 81 #[.pointer (some ⟨mb, 0, none⟩)] (.tuple #[niV (insX X).1.1, excA (insX X).1.2.1 (insX X).1.2.2]) [mb, rb] mb rb ((insX X).2) w := by
 unfold insX
 by_cases hf : (fetchD X.b (xC X) X.pc).1.f = 0
 . rw [if_pos hf]
   by_cases hd : (decodeD (fetchD X.b (xC X) X.pc).1.w).2 = 0
   . rw [if_pos hd]
     unfold insR
     by_cases hc : (croX (X.withB (fetchD X.b (xC X) X.pc).2) (niOf (decodeD (fetchD X.b (xC X) X.pc).1.w).1) (fetchD X.b (xC X) X.pc).1.w).1.1 = -1
     . rw [if_pos hc]
       exact x_instruct_y mb rb X hX hf hd _ rfl _ _ _ rfl hc w hw
     . rw [if_neg hc]
       exact x_instruct_g mb rb X hX hf hd _ rfl _ _ _ rfl hc w hw
   . rw [if_neg hd]
     exact x_instruct_n mb rb X hX hf hd w hw
 . rw [if_neg hf]
   exact x_instruct_f mb rb X hX hf w hw
theorem wout_tb (a m i : Nat) : (wout a m).testBit i = (a.testBit i && !m.testBit i) := by
 have ha : a < 2 ^ (a + i + 1) := Nat.lt_of_lt_of_le Nat.lt_two_pow_self (Nat.pow_le_pow_right (by omega) (by omega))
 have hm : m % 2 ^ (a + i + 1) < 2 ^ (a + i + 1) := Nat.mod_lt _ (Nat.two_pow_pos _)
 rw [<- wout_eq a m (a + i + 1) ha, Nat.testBit_and, Nat.testBit_two_pow_sub_succ hm, Nat.testBit_mod_two_pow]
 have h1 : i < a + i + 1 := by omega
 simp [h1]
theorem mpp_tb (s : Nat) : s / 2048 % 4 ≠ 2 ↔ ¬ (s.testBit 12 = true /\ s.testBit 11 = false) := by
 rw [Nat.testBit_eq_decide_div_mod_eq, Nat.testBit_eq_decide_div_mod_eq]
 simp only [decide_eq_true_eq, decide_eq_false_iff_not]
 omega
theorem set_mpp (s m : Nat) (b : Bool) (h1 : m.testBit 11 = false) (h2 : m.testBit 12 = false) (hs : s / 2048 % 4 ≠ 2) : xsetD s m b / 2048 % 4 ≠ 2 := by
 rw [mpp_tb] at hs |-
 cases b <;> simp [xsetD, wout_tb, Nat.testBit_or, h1, h2] <;> simpa using hs
theorem wout_mpp (s m : Nat) (h1 : m.testBit 11 = false) (h2 : m.testBit 12 = false) (hs : s / 2048 % 4 ≠ 2) : wout s m / 2048 % 4 ≠ 2 := by
 rw [mpp_tb] at hs |-
 simp [wout_tb, h1, h2]; simpa using hs
theorem str_mpp (s mode : Nat) (hs : s / 2048 % 4 ≠ 2) : xstrD s mode / 2048 % 4 ≠ 2 := by
 unfold xstrD
 exact wout_mpp _ _ (by decide) (by decide) (set_mpp _ _ _ (by decide) (by decide) (set_mpp _ _ _ (by decide) (by decide) hs))
theorem mtr_mpp (s mode : Nat) (hm : mode = 0 \/ mode = 1 \/ mode = 3) : xmtrD s mode / 2048 % 4 ≠ 2 := by
 unfold xmtrD xmixD
 refine wout_mpp _ _ (by decide) (by decide) ?_
 rw [mpp_tb]
 have k1 : Nat.testBit 6144 12 = true := by decide
 have k2 : Nat.testBit 6144 11 = true := by decide
 simp only [Nat.testBit_or, Nat.testBit_and, wout_tb, k1, k2]
 rcases hm with rfl | rfl | rfl
 . simp
 . simp; decide
 . simp; decide
theorem sret_mpp (s : Nat) (hs : s / 2048 % 4 ≠ 2) : xsretD s / 2048 % 4 ≠ 2 := by
 unfold xsretD
 exact set_mpp _ 32 true (by decide) (by decide) (wout_mpp _ _ (by decide) (by decide) (set_mpp _ _ _ (by decide) (by decide) hs))
theorem mret_mpp (s : Nat) : xmretD s / 2048 % 4 ≠ 2 := by
 unfold xmretD
 refine set_mpp _ 128 true (by decide) (by decide) ?_
 rw [mpp_tb]
 have k1 : Nat.testBit 6144 12 = true := by decide
 simp [wout_tb, k1]
theorem stw_mpp (s v : Nat) (hs : s / 2048 % 4 ≠ 2) : xstwD s v / 2048 % 4 ≠ 2 := by
 unfold xstwD xmixD
 rw [mpp_tb] at hs
 have k1 : Nat.testBit 8257962 12 = false := by decide
 have k2 : Nat.testBit 8257962 11 = false := by decide
 have k3 : Nat.testBit 8264106 12 = true := by decide
 have k4 : Nat.testBit 8264106 11 = true := by decide
 split
 . rw [mpp_tb]; simp [Nat.testBit_or, Nat.testBit_and, wout_tb, k1, k2]; simpa using hs
 . next h =>
   rw [mpp_tb]; simp only [Nat.testBit_and, k3, k4, Bool.and_true]
   rintro ⟨h1, h2⟩
   apply h
   refine Nat.eq_of_testBit_eq fun i => ?_
   rw [Nat.testBit_and]
   by_cases e12 : i = 12
   . subst e12; rw [h1]; decide
   by_cases e11 : i = 11
   . subst e11; rw [h2]; decide
   have z : Nat.testBit 6144 i = false := by
    have e : (6144 : Nat) = 2 ^ 12 ||| 2 ^ 11 := by decide
    rw [e, Nat.testBit_or, Nat.testBit_two_pow, Nat.testBit_two_pow]; simp; omega
   have z2 : Nat.testBit 4096 i = false := by
    have e : (4096 : Nat) = 2 ^ 12 := by decide
    rw [e, Nat.testBit_two_pow]; simp; omega
   rw [z, z2]; simp
theorem mix_mpp (s v : Nat) (hs : s / 2048 % 4 ≠ 2) : xmixD s v 786722 / 2048 % 4 ≠ 2 := by
 unfold xmixD
 rw [mpp_tb] at hs |-
 have k1 : Nat.testBit 786722 12 = false := by decide
 have k2 : Nat.testBit 786722 11 = false := by decide
 simp [Nat.testBit_or, Nat.testBit_and, wout_tb, k1, k2]; simpa using hs
theorem sub_tb {a m : Nat} (h : a &&& m = a) (i : Nat) : a.testBit i = (a.testBit i && m.testBit i) := by rw [<- Nat.testBit_and, h]
theorem sub_of {a m : Nat} (h : ∀ i, a.testBit i = (a.testBit i && m.testBit i)) : a &&& m = a := Nat.eq_of_testBit_eq fun i => by rw [Nat.testBit_and]; exact (h i).symm
theorem sub_or {a b m : Nat} (h1 : a &&& m = a) (h2 : b &&& m = b) : (a ||| b) &&& m = a ||| b := by rw [Nat.and_comm, and_bits, Nat.and_comm m a, Nat.and_comm m b, h1, h2]
theorem sub_wout {a : Nat} (b : Nat) {m : Nat} (h : a &&& m = a) : wout a b &&& m = wout a b := by
 refine sub_of fun i => ?_
 have := sub_tb h i
 rw [wout_tb]; revert this; cases a.testBit i <;> cases b.testBit i <;> cases m.testBit i <;> simp
theorem sub_and {b : Nat} (a : Nat) {m : Nat} (h : b &&& m = b) : (a &&& b) &&& m = a &&& b := by rw [Nat.and_assoc, h]
theorem sub_mix {a k m : Nat} (v : Nat) (h1 : a &&& m = a) (h2 : k &&& m = k) : xmixD a v k &&& m = xmixD a v k := sub_or (sub_wout _ h1) (sub_and _ h2)
theorem sub_set {a k m : Nat} (b : Bool) (h1 : a &&& m = a) (h2 : k &&& m = k) : xsetD a k b &&& m = xsetD a k b := by
 cases b
 . exact sub_wout _ h1
 . exact sub_or h1 h2
theorem sub_le {a m : Nat} (h : a &&& m = a) : a <= m := by rw [<- h]; exact Nat.and_le_right
theorem str_sub {s : Nat} (mode : Nat) (h : s &&& 8264106 = s) : xstrD s mode &&& 8264106 = xstrD s mode := sub_wout _ (sub_set _ (sub_set _ h (by decide)) (by decide))
theorem mtr_sub {s : Nat} (mode : Nat) (h : s &&& 8264106 = s) : xmtrD s mode &&& 8264106 = xmtrD s mode := sub_wout _ (sub_mix _ (sub_set _ h (by decide)) (by decide))
theorem sret_sub {s : Nat} (h : s &&& 8264106 = s) : xsretD s &&& 8264106 = xsretD s := sub_or (sub_wout _ (sub_set _ h (by decide))) (by decide)
theorem mret_sub {s : Nat} (h : s &&& 8264106 = s) : xmretD s &&& 8264106 = xmretD s := by
 have h2 : xmretA s &&& 8264106 = xmretA s := by
  unfold xmretA; split
  . exact h
  . exact sub_wout _ h
 exact sub_or (sub_wout _ (sub_set _ h2 (by decide))) (by decide)
theorem stw_sub {s : Nat} (v : Nat) (h : s &&& 8264106 = s) : xstwD s v &&& 8264106 = xstwD s v := by
 unfold xstwD; split
 . exact sub_mix _ h (by decide)
 . exact sub_and _ (by decide)
theorem word_lt (x : Int) : wordN x < 4294967296 := by unfold wordN; omega
theorem ite_lt {p : Prop} [Decidable p] {x y m : Nat} (h1 : x < m) (h2 : y < m) : (if p then x else y) < m := by split <;> assumption
theorem alu_add_lt (a b : Nat) (ha : a < 4294967296) (hb : b < 4294967296) : alu_add a b < 4294967296 := by unfold alu_add; exact Nat.mod_lt _ (by decide)
theorem alu_sub_lt (a b : Nat) (ha : a < 4294967296) (hb : b < 4294967296) : alu_sub a b < 4294967296 := by unfold alu_sub; exact word_lt _
theorem alu_slt_lt (a b : Nat) (ha : a < 4294967296) (hb : b < 4294967296) : alu_slt a b < 4294967296 := by unfold alu_slt; exact ite_lt (by decide) (by decide)
theorem alu_sltu_lt (a b : Nat) (ha : a < 4294967296) (hb : b < 4294967296) : alu_sltu a b < 4294967296 := by unfold alu_sltu; exact ite_lt (by decide) (by decide)
theorem alu_xor_lt (a b : Nat) (ha : a < 4294967296) (hb : b < 4294967296) : alu_xor a b < 4294967296 := by unfold alu_xor; exact Nat.xor_lt_two_pow (n := 32) ha hb
theorem alu_or_lt (a b : Nat) (ha : a < 4294967296) (hb : b < 4294967296) : alu_or a b < 4294967296 := by unfold alu_or; exact nat_or_lt a b 32 ha hb
theorem alu_and_lt (a b : Nat) (ha : a < 4294967296) (hb : b < 4294967296) : alu_and a b < 4294967296 := by unfold alu_and; exact Nat.lt_of_le_of_lt Nat.and_le_left ha
theorem alu_sll_lt (a b : Nat) (ha : a < 4294967296) (hb : b < 4294967296) : alu_sll a b < 4294967296 := by unfold alu_sll; exact Nat.mod_lt _ (by decide)
theorem alu_srl_lt (a b : Nat) (ha : a < 4294967296) (hb : b < 4294967296) : alu_srl a b < 4294967296 := by unfold alu_srl; exact Nat.lt_of_le_of_lt (Nat.div_le_self _ _) ha
theorem alu_sra_lt (a b : Nat) (ha : a < 4294967296) (hb : b < 4294967296) : alu_sra a b < 4294967296 := by unfold alu_sra; exact word_lt _
theorem alu_mul_lt (a b : Nat) (ha : a < 4294967296) (hb : b < 4294967296) : alu_mul a b < 4294967296 := by unfold alu_mul; exact Nat.mod_lt _ (by decide)
theorem alu_mulh_lt (a b : Nat) (ha : a < 4294967296) (hb : b < 4294967296) : alu_mulh a b < 4294967296 := by unfold alu_mulh; exact word_lt _
theorem alu_mulhsu_lt (a b : Nat) (ha : a < 4294967296) (hb : b < 4294967296) : alu_mulhsu a b < 4294967296 := by unfold alu_mulhsu; exact word_lt _
theorem alu_mulhu_lt (a b : Nat) (ha : a < 4294967296) (hb : b < 4294967296) : alu_mulhu a b < 4294967296 := by unfold alu_mulhu; exact (Nat.div_lt_iff_lt_mul (by decide)).2 (Nat.mul_lt_mul'' ha hb)
theorem alu_div_lt (a b : Nat) (ha : a < 4294967296) (hb : b < 4294967296) : alu_div a b < 4294967296 := by unfold alu_div; exact ite_lt (by decide) (word_lt _)
theorem alu_divu_lt (a b : Nat) (ha : a < 4294967296) (hb : b < 4294967296) : alu_divu a b < 4294967296 := by unfold alu_divu; exact ite_lt (by decide) (Nat.lt_of_le_of_lt (Nat.div_le_self _ _) ha)
theorem alu_rem_lt (a b : Nat) (ha : a < 4294967296) (hb : b < 4294967296) : alu_rem a b < 4294967296 := by unfold alu_rem; exact ite_lt ha (word_lt _)
theorem alu_remu_lt (a b : Nat) (ha : a < 4294967296) (hb : b < 4294967296) : alu_remu a b < 4294967296 := by unfold alu_remu; exact ite_lt ha (Nat.lt_of_le_of_lt (Nat.mod_le _ _) ha)
theorem alu_swap_lt (a b : Nat) (ha : a < 4294967296) (hb : b < 4294967296) : alu_swap a b < 4294967296 := by unfold alu_swap; exact hb
theorem alu_min_lt (a b : Nat) (ha : a < 4294967296) (hb : b < 4294967296) : alu_min a b < 4294967296 := by unfold alu_min; exact ite_lt ha hb
theorem alu_max_lt (a b : Nat) (ha : a < 4294967296) (hb : b < 4294967296) : alu_max a b < 4294967296 := by unfold alu_max; exact ite_lt ha hb
theorem alu_minu_lt (a b : Nat) (ha : a < 4294967296) (hb : b < 4294967296) : alu_minu a b < 4294967296 := by unfold alu_minu; exact ite_lt ha hb
theorem alu_maxu_lt (a b : Nat) (ha : a < 4294967296) (hb : b < 4294967296) : alu_maxu a b < 4294967296 := by unfold alu_maxu; exact ite_lt ha hb
theorem alu_all (op : Int) (a b : Nat) (ha : a < 4294967296) (hb : b < 4294967296) : alu op a b < 4294967296 := by
 unfold alu
 refine ite_lt (alu_add_lt a b ha hb) ?_
 refine ite_lt (alu_sub_lt a b ha hb) ?_
 refine ite_lt (alu_slt_lt a b ha hb) ?_
 refine ite_lt (alu_sltu_lt a b ha hb) ?_
 refine ite_lt (alu_xor_lt a b ha hb) ?_
 refine ite_lt (alu_or_lt a b ha hb) ?_
 refine ite_lt (alu_and_lt a b ha hb) ?_
 refine ite_lt (alu_sll_lt a b ha hb) ?_
 refine ite_lt (alu_srl_lt a b ha hb) ?_
 refine ite_lt (alu_sra_lt a b ha hb) ?_
 refine ite_lt (alu_mul_lt a b ha hb) ?_
 refine ite_lt (alu_mulh_lt a b ha hb) ?_
 refine ite_lt (alu_mulhsu_lt a b ha hb) ?_
 refine ite_lt (alu_mulhu_lt a b ha hb) ?_
 refine ite_lt (alu_div_lt a b ha hb) ?_
 refine ite_lt (alu_divu_lt a b ha hb) ?_
 refine ite_lt (alu_rem_lt a b ha hb) ?_
 refine ite_lt (alu_remu_lt a b ha hb) ?_
 refine ite_lt (alu_swap_lt a b ha hb) ?_
 refine ite_lt (alu_min_lt a b ha hb) ?_
 refine ite_lt (alu_max_lt a b ha hb) ?_
 refine ite_lt (alu_minu_lt a b ha hb) ?_
 refine ite_lt (alu_maxu_lt a b ha hb) ?_
 decide
theorem fetch_lt (B : BusS) (C : CsrS) (pc : Nat) (h : pc < 4294967296) : (fetchD B C pc).1.w < 4294967296 /\ (fetchD B C pc).1.at' < 4294967296 /\ (fetchD B C pc).1.f <= 2 := by
 have h1 := half_lt B C pc h
 have h2 := half_lt (halfD B C pc).2 C ((pc + 2) % 4294967296) (Nat.mod_lt _ (by decide))
 unfold fetchD
 exact zq205
def regR (m : UInt8 -> Bool) (s : ByteArray) (W : Nat) (given : Int) : Int :=
 let q := Pic.rv s.data.toList s.size
 if Pic.cnt m q = 0 then given else if Pic.cnt m q = 3 then (Pic.val m q W : Int) + 8 else (Pic.val m q W : Int)
def topN : List UInt8 -> Nat
 | [] => 0
 | x :: q => if 97 <= x.toNat /\ topN q < x.toNat then x.toNat else topN q
def sumR (sg : Bool) (t : Nat) : List UInt8 -> Nat -> Int
 | [], _ => 0
 | x :: q, y => (if 97 <= x.toNat then (if sg = true /\ x.toNat = t then -((y % 2 * 2 ^ (x.toNat - 97) : Nat) : Int) else ((y % 2 * 2 ^ (x.toNat - 97) : Nat) : Int)) else 0) + sumR sg t q (y / 2)
def immR (s : ByteArray) (sg : Bool) (W : Nat) : Int := sumR sg (topN (Pic.rv s.data.toList s.size)) (Pic.rv s.data.toList s.size) W
namespace TabR
structure Row where
 op : Int
 pic : ByteArray
 sg : Bool
 rd : Int
 rs1 : Int
 no : ByteArray
end TabR
def barC (x : Ins) (c : UInt8) : Bool := (c == 105 && x.im == 0) || (c == 100 && x.rd == 0) || (c == 115 && x.rs1 == 0) || (c == 116 && x.rs2 == 0) || (c == 50 && x.rd == 2)
def insRf (t : TabR.Row) (W : Nat) : Ins :=
 ⟨t.op, regR (fun x => x == 68 || x == 66) t.pic W t.rd, regR (fun x => x == 83 || x == 66) t.pic W t.rs1, regR (fun x => x == 84) t.pic W 0, immR t.pic t.sg W, (t.pic.size : Int) / 8⟩
def fitR (t : TabR.Row) (W : Nat) : Bool := Pic.fits (Pic.rv t.pic.data.toList t.pic.size) W && (W / 2 ^ t.pic.size == 0)
def readR (t : TabR.Row) (W : Nat) : Bool := fitR t W && !(t.no.data.toList.any (barC (insRf t W)))
def rowOp (t : Int × ByteArray × Int) : Bool :=
 decide (1 <= t.1) && (decide (t.1 <= 70) && (!(decide (61 <= t.1) && decide (t.1 <= 66)) || (decide (Pic.most (Pic.rv t.2.1.data.toList t.2.1.size) <= 4095) && !hasB t.2.2 1)))
theorem longs_op : ((List.range 71).all fun n => n == 0 || rowOp (Tab.longRow n)) = true := by decide +kernel
theorem shorts_op : ((List.range 27).all fun n => n == 0 || rowOp (Tab.shortRow n)) = true := by decide +kernel
theorem imm_pos (s : ByteArray) (W : Nat) (h1 : Pic.most (Pic.rv s.data.toList s.size) <= 4095) : 0 <= immOf s false W /\ immOf s false W <= 4095 := by
 have a := Pic.sum_le_most (Pic.rv s.data.toList s.size) W
 unfold immOf
 rw [Pic.imm_of]
 split
 . next h => simp at h
 . omega
def OpOk (i : Ins) : Prop := 1 <= i.op /\ i.op <= 70 /\ (61 <= i.op /\ i.op <= 66 -> 0 <= i.im /\ i.im <= 4095)
theorem row_op (t : Int × ByteArray × Int) (h : rowOp t = true) (W : Nat) : OpOk (rowIns t W) := by
 unfold rowOp at h
 simp only [Bool.and_eq_true, Bool.or_eq_true, decide_eq_true_eq, Bool.not_eq_true', Bool.and_eq_false_iff, decide_eq_false_iff_not] at h
 obtain ⟨h1, h2, h3⟩ := h
 refine ⟨h1, h2, fun hc => ?_⟩
 have hc1 : 61 <= t.1 := hc.1
 have hc2 : t.1 <= 66 := hc.2
 rcases h3 with h3 | ⟨h3, h4⟩
 . rcases h3 with h3 | h3 <;> omega
 . have := imm_pos t.2.1 W h3
   unfold rowIns
   dsimp only
   rw [h4]
   exact this
theorem decode_op (x : Int) (h : ¬ (decodeD x).1.op = 0) : OpOk (decodeD x).1 /\ (decodeD x).2 = 0 := by
 have h2 : (decodeD x).2 = 0 := by
  unfold decodeD at h |-
  split
  . next q => rw [if_pos q] at h; exact absurd rfl h
  . split <;> rfl
 exact ⟨decode_all (fun i => ¬ i.op = 0 -> OpOk i) rowOp longs_op shorts_op (fun t ht W _ => row_op t ht W) (fun z _ q => absurd rfl q) x h2 h, h2⟩
structure XInv (X : XS) : Prop where
 ok : XOk X
 x0 : X.x.getD 0 0 = 0
 mip : X.c.mip &&& 546 = X.c.mip
 mst : X.c.mstatus &&& 8264106 = X.c.mstatus
 mie : X.c.mie &&& 2730 = X.c.mie
 med : X.c.medeleg &&& 46079 = X.c.medeleg
 mid : X.c.mideleg &&& 546 = X.c.mideleg
 inh : X.c.minh &&& 5 = X.c.minh
 pc2 : X.pc % 2 = 0
 mep : X.c.mepc % 2 = 0
 sep : X.c.sepc % 2 = 0
 mtv : X.c.mtvec.testBit 1 = false
 stv : X.c.stvec.testBit 1 = false
 mpv : X.mode ≠ 3 -> X.c.mstatus.testBit 17 = false
theorem Pic.sum_even : ∀ (q : List UInt8) (w : Nat), q.contains 97 = false -> Pic.sum q w % 2 = 0 /\ ∀ y, Pic.high q = y -> y % 2 = 0 \/ y = 0
 | [], w, _ => ⟨rfl, fun y h => .inr h.symm⟩
 | x :: q, w, h => by
  rw [List.contains_cons, Bool.or_eq_false_iff] at h
  have ih := Pic.sum_even q (w / 2) h.2
  have hx : x ≠ 97 := by intro e; rw [e] at h; exact absurd h.1 (by decide)
  unfold Pic.sum Pic.high
  cases hl : Pic.isLet x
  . exact ⟨by rw [cond_false]; omega, ih.2⟩
  . have hl' : 98 <= x.toNat := by
     unfold Pic.isLet at hl
     simp at hl
     have : x.toNat ≠ 97 := fun e => hx (UInt8.toNat_inj.1 e)
     omega
    obtain ⟨k, hk⟩ : ∃ k, x.toNat - 97 = k + 1 := ⟨x.toNat - 98, by omega⟩
    rw [cond_true, cond_true, hk, Nat.pow_succ]
    obtain ⟨b, hb⟩ := zn1 (w % 2 * 2 ^ k)
    refine ⟨by rw [<- Nat.mul_assoc, <- hb]; omega, fun y hy => .inl ?_⟩
    rcases Nat.le_total (2 ^ k * 2) (Pic.high q) with h1 | h1
    . rw [Nat.max_eq_right h1] at hy
      rcases ih.2 _ rfl with h2 | h2
      . omega
      . have := Nat.two_pow_pos k; omega
    . rw [Nat.max_eq_left h1] at hy; omega
def rowEv (t : Int × ByteArray × Int) : Bool := !(decide (t.1 = 3) || (decide (5 <= t.1) && decide (t.1 <= 10))) || !(Pic.rv t.2.1.data.toList t.2.1.size).contains 97
theorem longs_ev : ((List.range 71).all fun n => n == 0 || rowEv (Tab.longRow n)) = true := by decide +kernel
theorem shorts_ev : ((List.range 27).all fun n => n == 0 || rowEv (Tab.shortRow n)) = true := by decide +kernel
def EvI (i : Ins) : Prop := i.op = 3 \/ (5 <= i.op /\ i.op <= 10) -> i.im % 2 = 0
theorem row_ev (t : Int × ByteArray × Int) (h : rowEv t = true) (W : Nat) : EvI (rowIns t W) := by
 intro ho
 have ho' : t.1 = 3 \/ (5 <= t.1 /\ t.1 <= 10) := ho
 unfold rowEv at h
 have h2 : (Pic.rv t.2.1.data.toList t.2.1.size).contains 97 = false := by
  cases hc : (Pic.rv t.2.1.data.toList t.2.1.size).contains 97
  . rfl
  . rw [hc] at h; simp at h; omega
 have q := Pic.sum_even _ W h2
 show immOf t.2.1 (hasB t.2.2 1) W % 2 = 0
 exact zq331
theorem decode_ev (x : Int) (h : (decodeD x).2 = 0) : EvI (decodeD x).1 := decode_all EvI rowEv longs_ev shorts_ev row_ev (fun _ _ _ => rfl) x h
theorem wout_ev (v : Nat) (m : Nat) (hm : m.testBit 0 = true) : wout v m % 2 = 0 := by
 have := wout_tb v m 0
 rw [hm, Nat.testBit_zero] at this
 simp at this
 omega
theorem tb17 : Nat.testBit 131072 17 = true /\ Nat.testBit 131328 17 = true /\ Nat.testBit 8 17 = false /\ Nat.testBit 128 17 = false /\ Nat.testBit 32 17 = false /\ Nat.testBit 256 17 = false /\ Nat.testBit 2 17 = false /\ Nat.testBit 786722 17 = false /\ Nat.testBit 2 1 = true := by decide
theorem wout_2 (v : Nat) : (wout v 2).testBit 1 = false := by rw [wout_tb]; simp [tb17]
theorem XInv.withB {X : XS} (h : XInv X) {B : BusS} (hB : BusOk B) : XInv (X.withB B) := { h with ok := XS.okB h.ok hB }
theorem XInv.setR {X : XS} (h : XInv X) (d v : Nat) (hv : v < 4294967296) : XInv (setXR X d v) := by
 have h1 := XS.okR h.ok d v hv
 have e0 : (setXR X d v).x.getD 0 0 = 0 := by
  unfold setXR; split
  . exact h.x0
  . next hd =>
    have := h.x0
    dsimp only
    rw [List.getD_eq_getElem?_getD, List.getElem?_set_ne (by omega), <- List.getD_eq_getElem?_getD]; exact this
 have ec : (setXR X d v).c = X.c := zq112
 have ep : (setXR X d v).pc = X.pc /\ (setXR X d v).mode = X.mode := by unfold setXR; split <;> exact ⟨rfl, rfl⟩
 exact ⟨h1, e0, by rw [ec]; exact h.mip, by rw [ec]; exact h.mst, by rw [ec]; exact h.mie, by rw [ec]; exact h.med, by rw [ec]; exact h.mid, by rw [ec]; exact h.inh, by rw [ep.1]; exact h.pc2, by rw [ec]; exact h.mep, by rw [ec]; exact h.sep, by rw [ec]; exact h.mtv, by rw [ec]; exact h.stv, by rw [ec, ep.2]; exact h.mpv⟩
theorem XInv.unres {X : XS} (h : XInv X) : XInv (unresX X) := { h with ok := { h.ok with resv := by show 0 < _; decide } }
theorem XInv.ram {X : XS} (h : XInv X) {r : List UInt8} (hr : r.length = X.b.ram.length) : XInv (setRam X r) := { h with ok := { h.ok with b := setRam_ok h.ok.b hr } }
theorem XInv.pc' {X : XS} (h : XInv X) {p : Nat} (hp : p < 4294967296) (he : p % 2 = 0) : XInv { X with pc := p } := { h with ok := { h.ok with pc := hp }, pc2 := he }
theorem XInv.ite {p : Prop} [Decidable p] {X Y : XS} (h1 : XInv X) (h2 : XInv Y) : XInv (if p then X else Y) := by split <;> assumption
theorem sub_trans {a b c : Nat} (h1 : a &&& b = a) (h2 : b &&& c = b) : a &&& c = a := by rw [<- h1, Nat.and_assoc, h2]
theorem wout_lt (v m : Nat) (hv : v < 4294967296) : wout v m < 4294967296 := Nat.lt_of_le_of_lt (wout_le _ _) hv
theorem and_lt8 (v : Nat) : v &&& 7 < 8 := Nat.lt_of_le_of_lt Nat.and_le_right (by decide)
theorem sup_inv {X : XS} (h : XInv X) (n : Int) (v : Nat) (hv : v < 4294967296) : XInv (writeSuperD X n v) := by
 have hm : X.c.mideleg &&& 2 &&& 546 = X.c.mideleg &&& 2 := sub_and _ (by decide)
 have hd : X.c.mideleg &&& 2730 = X.c.mideleg := sub_trans h.mid (by decide)
 have m1 := sub_mix (k := 786722) v h.mst (by decide)
 have m2 := sub_mix (k := X.c.mideleg) v h.mie hd
 have m3 := sub_mix (k := X.c.mideleg &&& 2) v h.mip hm
 unfold writeSuperD
 refine XInv.ite ?_ ?_
 . exact { h with ok := { h.ok with mstatus := Nat.lt_of_le_of_lt (sub_le m1) (by decide), mpp := mix_mpp _ _ h.ok.mpp }, mst := m1, mpv := fun q => by show (wout X.c.mstatus 786722 ||| v &&& 786722).testBit 17 = false; rw [Nat.testBit_or, wout_tb, Nat.testBit_and, h.mpv q]; simp [tb17] }
 refine XInv.ite ?_ ?_
 . exact { h with ok := { h.ok with mie := Nat.lt_of_le_of_lt (sub_le m2) (by decide) }, mie := m2 }
 refine XInv.ite ?_ ?_
 . exact { h with ok := { h.ok with stvec := wout_lt _ _ hv }, stv := wout_2 _ }
 refine XInv.ite ?_ ?_
 . exact { h with ok := { h.ok with scen := and_lt8 v } }
 refine XInv.ite ?_ ?_
 . exact { h with ok := { h.ok with sscratch := hv } }
 refine XInv.ite ?_ ?_
 . exact { h with ok := { h.ok with sepc := wout_lt _ _ hv }, sep := wout_ev _ 1 (by decide) }
 refine XInv.ite ?_ ?_
 . exact { h with ok := { h.ok with scause := hv } }
 refine XInv.ite ?_ ?_
 . exact { h with ok := { h.ok with stval := hv } }
 refine XInv.ite ?_ ?_
 . exact { h with ok := { h.ok with mip := sub_le m3 }, mip := m3 }
 refine XInv.ite ?_ ?_
 . exact { h with ok := { h.ok with satp := hv } }
 exact h
theorem and_lt32 (v m : Nat) (hm : m < 4294967296) : v &&& m < 4294967296 := Nat.lt_of_le_of_lt Nat.and_le_right hm
theorem mac_inv {X : XS} (h : XInv X) (h3 : X.mode = 3) (n : Int) (v : Nat) (hv : v < 4294967296) : XInv (writeMachD X n v) := by
 have m1 := stw_sub v h.mst
 unfold writeMachD
 refine XInv.ite ?_ ?_
 . exact { h with ok := { h.ok with mstatus := Nat.lt_of_le_of_lt (sub_le m1) (by decide), mpp := stw_mpp _ _ h.ok.mpp }, mst := m1, mpv := fun q => absurd h3 q }
 refine XInv.ite ?_ ?_
 . exact { h with ok := { h.ok with medeleg := and_lt32 _ _ (by decide) }, med := sub_and _ (by decide) }
 refine XInv.ite ?_ ?_
 . exact { h with ok := { h.ok with mideleg := and_lt32 _ _ (by decide) }, mid := sub_and _ (by decide) }
 refine XInv.ite ?_ ?_
 . exact { h with ok := { h.ok with mie := and_lt32 _ _ (by decide) }, mie := sub_and _ (by decide) }
 refine XInv.ite ?_ ?_
 . exact { h with ok := { h.ok with mtvec := wout_lt _ _ hv }, mtv := wout_2 _ }
 refine XInv.ite ?_ ?_
 . exact { h with ok := { h.ok with mcen := and_lt8 v } }
 refine XInv.ite ?_ ?_
 . exact { h with ok := { h.ok with minh := Nat.lt_of_le_of_lt (Nat.and_le_right (n := v) (m := 5)) (by decide) }, inh := sub_and _ (by decide) }
 refine XInv.ite ?_ ?_
 . exact { h with ok := { h.ok with mscratch := hv } }
 refine XInv.ite ?_ ?_
 . exact { h with ok := { h.ok with mepc := wout_lt _ _ hv }, mep := wout_ev _ 1 (by decide) }
 refine XInv.ite ?_ ?_
 . exact { h with ok := { h.ok with mcause := hv } }
 refine XInv.ite ?_ ?_
 . exact { h with ok := { h.ok with mtval := hv } }
 refine XInv.ite ?_ ?_
 . exact { h with ok := { h.ok with mip := Nat.and_le_right }, mip := sub_and _ (by decide) }
 exact h
theorem con_inv {X : XS} (h : XInv X) (n : Int) (v : Nat) (hv : v < 4294967296) : XInv (writeCounterD X n v) := by
 unfold writeCounterD
 refine XInv.ite ?_ ?_
 . exact { h with ok := { h.ok with cyc := hv } }
 refine XInv.ite ?_ ?_
 . exact { h with ok := { h.ok with cych := hv } }
 refine XInv.ite ?_ ?_
 . exact { h with ok := { h.ok with ret := hv } }
 refine XInv.ite ?_ ?_
 . exact { h with ok := { h.ok with reth := hv } }
 exact h
theorem wcs_inv {X : XS} (h : XInv X) (n : Int) (h3 : 768 <= n /\ n <= 1023 -> X.mode = 3) (v : Nat) (hv : v < 4294967296) : XInv (wcsX X n v) := by
 unfold wcsX
 refine XInv.ite ?_ ?_
 . exact sup_inv h n v hv
 split
 . next q => exact mac_inv h (h3 q) n v hv
 exact con_inv h n v hv
theorem may_mode {X : XS} (h : XInv X) {i : NI} (hm : mayB X i = true) (q : 768 <= i.im /\ i.im <= 1023) : X.mode = 3 := by
 unfold mayB mayT at hm
 have hd : ¬ X.mode < i.im.toNat / 256 % 4 := by
  intro e
  rw [decide_eq_true e] at hm
  cases hr : (rcsD X i.im).2 <;> rw [hr] at hm <;> simp at hm
 have := h.ok.mode
 omega
theorem ccr_inv {X : XS} (h : XInv X) (i : NI) (hi : NIOk i) (hy : mayB X i = true) : XInv (ccrX X i) := by
 have hr := rcs_lt X h.ok i.im
 have ho : opdD X i < 4294967296 := by
  unfold opdD; split
  . exact h.ok.xr _
  . have := hi.rs1; omega
 have h1 := h.setR i.rd _ hr
 have hm := h.ok.mip
 unfold ccrX
 split
 . refine wcs_inv h1 _ (fun q => ?_) _ (chg_lt _ _ _ ?_ ho)
   . have := may_mode h hy q
     unfold setXR; split <;> exact this
   split
   . omega
   . exact hr
 . exact h1
theorem mpp3 (s : Nat) (h : s &&& 6144 = 6144) : s / 2048 % 4 = 3 := by rw [<- and6144, h]
theorem mret_17 (s : Nat) (h : ¬ s &&& 6144 = 6144) : (xmretD s).testBit 17 = false := by
 unfold xmretD xmretA
 rw [if_neg h, Nat.testBit_or, wout_tb]
 unfold xsetD
 cases decide (wout s 131072 &&& 128 = 0) <;> simp [wout_tb, tb17]
theorem sret_17 (s : Nat) : (xsretD s).testBit 17 = false := by
 unfold xsretD
 rw [Nat.testBit_or, wout_tb]
 simp [tb17]
theorem str_17 (s m : Nat) (h : s.testBit 17 = false) : (xstrD s m).testBit 17 = false := by
 unfold xstrD xsetD
 cases decide (s &&& 2 = 0) <;> cases decide (m = 1) <;> simp [wout_tb, h, tb17]
theorem hdl_ev (t c : Nat) : xhdlD t c % 2 = 0 := by
 have := wout_ev t 3 (by decide)
 unfold xhdlD; split <;> omega
theorem prv_inv {X : XS} (h : XInv X) (op : Int) : XInv (prvX X op) := by
 have m1 := mret_sub h.mst
 have m2 := sret_sub h.mst
 have hp := h.ok.mpp
 unfold prvX
 split
 . refine XInv.unres (X := { X with mode := X.c.mstatus / 2048 % 4, c := { X.c with mstatus := xmretD X.c.mstatus } }) ?_
   exact { h with ok := { h.ok with mode := (by show X.c.mstatus / 2048 % 4 = 0 \/ X.c.mstatus / 2048 % 4 = 1 \/ X.c.mstatus / 2048 % 4 = 3; omega), mstatus := Nat.lt_of_le_of_lt (sub_le m1) (by decide), mpp := mret_mpp _ }, mst := m1, mpv := fun q => mret_17 _ (by intro e; exact q (by show X.c.mstatus / 2048 % 4 = 3; exact mpp3 _ e)) }
 split
 . refine XInv.unres (X := { X with mode := X.c.mstatus / 256 % 2, c := { X.c with mstatus := xsretD X.c.mstatus } }) ?_
   exact { h with ok := { h.ok with mode := (by show X.c.mstatus / 256 % 2 = 0 \/ X.c.mstatus / 256 % 2 = 1 \/ X.c.mstatus / 256 % 2 = 3; omega), mstatus := Nat.lt_of_le_of_lt (sub_le m2) (by decide), mpp := sret_mpp _ h.ok.mpp }, mst := m2, mpv := fun _ => sret_17 _ }
 split
 . exact { h with ok := { h.ok with } }
 exact h
theorem hdl_lt (t c : Nat) (ht : t < 4294967296) : xhdlD t c < 4294967296 := by
 unfold xhdlD; split
 . exact Nat.mod_lt _ (by decide)
 . exact wout_lt _ _ ht
theorem ts_inv {X : XS} (h : XInv X) (hq : X.mode ≠ 3) (c t : Nat) (hc : c < 4294967296) (ht : t < 4294967296) : XInv (tsX X c t) := by
 have m1 := str_sub X.mode h.mst
 exact { h with ok := { h.ok with mode := .inr (.inl rfl), pc := hdl_lt _ _ h.ok.stvec, sepc := h.ok.pc, scause := hc, stval := ht, mstatus := Nat.lt_of_le_of_lt (sub_le m1) (by decide), mpp := str_mpp _ _ h.ok.mpp }, mst := m1, pc2 := hdl_ev _ _, sep := h.pc2, mpv := fun _ => str_17 _ _ (h.mpv hq) }
theorem tm_inv {X : XS} (h : XInv X) (c t : Nat) (hc : c < 4294967296) (ht : t < 4294967296) : XInv (tmX X c t) := by
 have m1 := mtr_sub X.mode h.mst
 exact { h with ok := { h.ok with mode := .inr (.inr rfl), pc := hdl_lt _ _ h.ok.mtvec, mepc := h.ok.pc, mcause := hc, mtval := ht, mstatus := Nat.lt_of_le_of_lt (sub_le m1) (by decide), mpp := mtr_mpp _ _ h.ok.mode }, mst := m1, pc2 := hdl_ev _ _, mep := h.pc2, mpv := fun q => absurd rfl q }
theorem dlg_mode {X : XS} {d c : Nat} (h : dlgB X d c = true) : X.mode ≠ 3 := by
 unfold dlgB at h; simp at h; exact h.1
theorem ti_inv {X : XS} (h : XInv X) (c : Nat) (hc : c < 32) : XInv (tiX X c) := by
 unfold tiX; split
 . next q => exact ts_inv h (dlg_mode q) _ _ (by omega) (by decide)
 . exact tm_inv h _ _ (by omega) (by decide)
theorem te_inv {X : XS} (h : XInv X) (c t : Nat) (hc : c < 32) (ht : t < 4294967296) : XInv (teX X c t) := by
 unfold teX; split
 . next q => exact ts_inv h (dlg_mode q) _ _ (by omega) ht
 . exact tm_inv h _ _ (by omega) ht
theorem cnt_inv {X : XS} (h : XInv X) (r : Bool) (k : Nat) : XInv (cntX X r k) := by
 have l (a n : Nat) : incL a n < 4294967296 := Nat.mod_lt _ (by decide)
 have l2 (a b n : Nat) : incH a b n < 4294967296 := Nat.mod_lt _ (by decide)
 unfold cntX cntB
 exact { h with ok := { h.ok with cyc := (by dsimp only; split; exact l _ _; exact h.ok.cyc), cych := (by dsimp only; split; exact l2 _ _ _; exact h.ok.cych), ret := (by dsimp only; split; exact l _ _; exact h.ok.ret), reth := (by dsimp only; split; exact l2 _ _ _; exact h.ok.reth) } }
theorem npc_lt {X : XS} (h : XInv X) (i : NI) : npcD X i < 4294967296 := by
 unfold npcD
 split
 . exact word_lt _
 split
 . exact Nat.lt_of_le_of_lt (Nat.sub_le _ _) (word_lt _)
 split
 . exact h.ok.mepc
 split
 . exact h.ok.sepc
 exact Nat.mod_lt _ (by decide)
theorem npc_ev {X : XS} (h : XInv X) (i : NI) (hi : NIOk i) (he : i.op = 3 \/ (5 <= i.op /\ i.op <= 10) -> i.im % 2 = 0) : npcD X i % 2 = 0 := by
 have h1 := h.pc2
 have h2 := hi.ln
 unfold npcD
 split
 . next q =>
   have := he (by omega)
   unfold wordN; omega
 split
 . omega
 split
 . exact h.mep
 split
 . exact h.sep
 unfold behD; omega
theorem rsv_lt {X : XS} (h : XInv X) (i : NI) : rsvD X i < 4294967296 := by
 unfold rsvD
 split
 . exact word_lt _
 split
 . exact word_lt _
 split
 . exact Nat.mod_lt _ (by decide)
 split
 . exact alu_all _ _ _ (h.ok.xr _) (word_lt _)
 . exact alu_all _ _ _ (h.ok.xr _) (h.ok.xr _)
theorem fau_in (f k : Int) : 0 <= xfauD f k /\ xfauD f k < 16 := by
 unfold xfauD; repeat' split
 all_goals omega
theorem ld_inv {X : XS} (h : XInv X) (i : NI) : XInv (ldX X i).2 /\ (ldX X i).1.2 < 4294967296 /\ -1 <= (ldX X i).1.1 /\ (ldX X i).1.1 < 16 := by
 have hv : vaD X i < 4294967296 := word_lt _
 have hn := nD_le i.op
 have h1 := reach_ok h.ok.b (xC X) (vaD X i) (nD i.op) 1
 have h2 := reach_sp X.b (xC X) (vaD X i) (nD i.op) 1 hv hn.1
 unfold ldX
 generalize reachD X.b (xC X) (vaD X i) (nD i.op) 1 = S at h1 h2
 unfold ldF
 split
 . next hf =>
   refine ⟨(h.withB (load_ok h1 _)).setR _ _ ?_, zq526, zq526, zq526⟩
   have h3 := load_lt h1 S.1 (h2.n1 hf)
   rw [h2.sum hf] at h3
   have h4 : 256 ^ nD i.op <= 256 ^ 4 := Nat.pow_le_pow_right (by decide) hn.2
   unfold ldvD; split
   . exact word_lt _
   . exact Nat.lt_of_lt_of_le h3 h4
 . have := fau_in S.1.fault 1
   exact zq332
theorem st_inv {X : XS} (h : XInv X) (i : NI) : XInv (stX X i).2 /\ (stX X i).1.2 < 4294967296 /\ -1 <= (stX X i).1.1 /\ (stX X i).1.1 < 16 := by
 have hv : vaD X i < 4294967296 := word_lt _
 have hn := nD_le i.op
 have h1 := reach_ok h.ok.b (xC X) (vaD X i) (nD i.op) 2
 have h2 := reach_sp X.b (xC X) (vaD X i) (nD i.op) 2 hv hn.1
 unfold stX
 generalize reachD X.b (xC X) (vaD X i) (nD i.op) 2 = S at h1 h2
 unfold stF
 split
 . next hf => exact ⟨h.withB (store_ok h1 _ _ (h.ok.xr _)), zq526, zq526, zq526⟩
 . have := fau_in S.1.fault 2
   exact zq332
theorem atG_inv {X : XS} (h : XInv X) (i : NI) (pa : Nat) (hp : pa < 17184063488) : XInv (atG X i pa) := by
 have hr := rd4_lt X.b (pa - 2147483648)
 unfold atG
 split
 . have h1 := h.setR i.rd _ hr
   exact { h1 with ok := { h1.ok with resv := hp } }
 split
 . unfold scX
   refine XInv.unres (XInv.setR ?_ _ _ ?_)
   . cases scB X pa
     . exact h.ram (stN_length _ _ _ _)
     . exact h
   . have hb : ∀ b : Bool, b.toNat < 4294967296 := by decide
     exact hb _
 . exact (h.ram (stN_length _ _ _ _)).setR _ _ hr
theorem at_inv {X : XS} (h : XInv X) (i : NI) : XInv (atX X i).2 /\ (atX X i).1.2 < 4294967296 /\ -1 <= (atX X i).1.1 /\ (atX X i).1.1 < 16 := by
 have hv := h.ok.xr i.rs1
 have h1 := wordAt_ok h.ok.b (xC X) (X.x.getD i.rs1 0) (kD i.op)
 have h2 := wordAt_lt X.b (xC X) (X.x.getD i.rs1 0) (kD i.op) hv
 unfold atX
 generalize wordAtD X.b (xC X) (X.x.getD i.rs1 0) (kD i.op) = t at h1 h2
 split
 . unfold atF
   split
   . exact ⟨atG_inv (h.withB h1) i _ h2.1, zq526, zq526, zq526⟩
   . have := fau_in t.1.2 (kD i.op)
     exact ⟨h.withB h1, hv, by dsimp only; omega, by dsimp only; omega⟩
 . exact ⟨h, hv, by dsimp only; unfold xalgD; split <;> decide, by dsimp only; unfold xalgD; split <;> decide⟩
theorem cro_inv {X : XS} (h : XInv X) (i : NI) (hi : NIOk i) (v : Nat) (hv : v < 4294967296) : XInv (croX X i v).2 /\ (croX X i v).1.2 < 4294967296 /\ -1 <= (croX X i v).1.1 /\ (croX X i v).1.1 < 16 := by
 unfold croX
 split
 . exact ⟨h.setR _ _ (rsv_lt h i), zq526, zq526, zq526⟩
 split
 . exact ⟨h, zq526, zq526, zq526⟩
 split
 . exact ld_inv h i
 split
 . exact st_inv h i
 split
 . exact at_inv h i
 split
 . have := h.ok.mode; exact ⟨h, zq526, by dsimp only; omega, by dsimp only; omega⟩
 split
 . exact ⟨h, h.ok.pc, zq526, zq526⟩
 split
 . next q => exact ⟨ccr_inv h i hi q.2, zq526, zq526, zq526⟩
 split
 . exact ⟨prv_inv h _, zq526, zq526, zq526⟩
 exact ⟨h, hv, zq526, zq526⟩
theorem ins_inv {X : XS} (h : XInv X) : XInv (insX X).2 /\ (insX X).1.2.2 < 4294967296 /\ -1 <= (insX X).1.2.1 /\ (insX X).1.2.1 < 16 := by
 have h1 := fetch_ok h.ok.b (xC X) X.pc
 have h2 := fetch_lt X.b (xC X) X.pc h.ok.pc
 unfold insX
 generalize fetchD X.b (xC X) X.pc = T at h1 h2
 split
 . split
   . next hd =>
     have hN := (decode_ni (T.1.w : Int) hd).1
     have h3 := cro_inv (h.withB h1) _ hN T.1.w h2.1
     unfold insR
     split
     . exact ⟨h3.1.pc' (npc_lt (h.withB h1) _) (npc_ev (h.withB h1) _ hN (decode_ev _ hd)), h3.2⟩
     . exact h3
   . exact ⟨h.withB h1, h2.1, zq526, zq526⟩
 . have := fau_in T.1.f 0
   exact ⟨h.withB h1, h2.2.1, by dsimp only; omega, by dsimp only; omega⟩
theorem bit01 (a k : Nat) : a / 2 ^ k % 2 = (a.testBit k).toNat := by
 rw [Nat.testBit_eq_decide_div_mod_eq]
 rcases Nat.mod_two_eq_zero_or_one (a / 2 ^ k) with h | h <;> simp [h]
theorem bit_woutN (a m k : Nat) : wout a m / 2 ^ k % 2 = if m / 2 ^ k % 2 = 1 then 0 else a / 2 ^ k % 2 := by
 rw [bit01, bit01 m, bit01 a]
 simp only [wout_tb]
 exact zq333
theorem bit_orN (a m k : Nat) : (a ||| m) / 2 ^ k % 2 = if m / 2 ^ k % 2 = 1 then 1 else a / 2 ^ k % 2 := by
 rw [bit01, bit01 m, bit01 a]
 simp only [Nat.testBit_or]
 exact zq333
theorem bit_andN (a m k : Nat) : (a &&& m) / 2 ^ k % 2 = if m / 2 ^ k % 2 = 1 then a / 2 ^ k % 2 else 0 := by
 rw [bit01, bit01 m, bit01 a]
 simp only [Nat.testBit_and]
 exact zq333
theorem ite_ex {p : Prop} [Decidable p] {Y A B : XS} (h1 : ∃ C, A = { Y with c := C }) (h2 : ∃ C, B = { Y with c := C }) : ∃ C, (if p then A else B) = { Y with c := C } := by split <;> assumption
theorem wcs_ex (Y : XS) (n : Int) (v : Nat) : ∃ C, wcsX Y n v = { Y with c := C } := by
 unfold wcsX writeSuperD writeMachD writeCounterD
 repeat' (first | exact ⟨_, rfl⟩ | refine ite_ex ?_ ?_)
theorem wcs_keep (Y : XS) (n : Int) (v : Nat) : wcsX Y n v = { Y with c := (wcsX Y n v).c } := by
 obtain ⟨C, h⟩ := wcs_ex Y n v
 rw [h]
section
attribute [local go_sem ↓] Go.wp_at_zero Go.wp_at_succ
theorem XAt.waitS {w mb rb X} (h : XAt w mb rb X) : XAt (w.setCell ⟨mb, 35, none⟩ (.bool false)) mb rb { X with waits := false } := h.set 35 _ rfl rfl (by omega)
def wakX (X : XS) : XS := { X with waits := false }
def actE (Y : (NI × (Int × Nat)) × XS) : (Int × Int × Int) × XS :=
 if Y.1.2.1 = -1 then ((0, 0, cwrD Y.1.1), Y.2) else ((1, Y.1.2.1, 0), teX Y.2 Y.1.2.1.toNat Y.1.2.2)
def actX (X : XS) : (Int × Int × Int) × XS :=
 if (X.waits && decide (askD X = 0)) = true then ((3, 0, 0), X)
 else if intD (wakX X) = -1 then actE (insX (wakX X))
 else ((2, intD (wakX X), 0), tiX (wakX X) (intD (wakX X)).toNat)
def didV (k c : Int) : Value := .agg #[.int .i64 k, .int .i64 c]
theorem mu_in (a : Nat) : -1 <= xmuD a /\ xmuD a < 12 := by
 unfold xmuD; repeat' split
 all_goals omega
theorem int_in (X : XS) : -1 <= intD X /\ intD X < 12 := by
 have h1 := mu_in (wout (askD X) X.c.mideleg)
 have h2 := mu_in (askD X &&& X.c.mideleg)
 unfold intD intB
 split
 . exact h1
 split
 . exact h2
 . omega
theorem wak_inv {X : XS} (h : XInv X) : XInv (wakX X) := { h with ok := { h.ok with } }
theorem act_inv {X : XS} (h : XInv X) : XInv (actX X).2 /\ -1 <= (actX X).1.2.1 /\ (actX X).1.2.1 < 16 := by
 have hw := wak_inv h
 have hi := int_in (wakX X)
 have h1 := ins_inv hw
 unfold actX
 split
 . exact ⟨h, zq526, zq526⟩
 split
 . unfold actE
   split
   . exact ⟨h1.1, zq526, zq526⟩
   . exact ⟨te_inv h1.1 _ _ (by omega) h1.2.1, h1.2.2⟩
 . refine ⟨ti_inv hw _ (by omega), ?_, ?_⟩ <;> dsimp only <;> omega
theorem x_act_i (mb rb : Nat) (X : XS) (hI : XInv X) (h1 : X.waits = true) (h2 : askD X = 0) (w) (hw : Hid (XAt w mb rb X)) :
 CX 37 #[.pointer (some ⟨mb, 0, none⟩)] (.tuple #[didV 3 0, .int .i64 0]) [mb, rb] mb rb X w := by
 have hX := hI.ok
 have hlt := hw.out.lt
 have hrlt := hw.out.rlt
 have hlt' : ¬ mb = w.heap.size := by omega
 have hwa : Hid (XAt (w.alloc (.cells #[.int .i64 0, .int .i64 0] 45)) mb rb X) := zq10
 have c35 := hw.out.c35
 have hfr := hw.out.fro
 have AS := hide1 (fun W h => x_asked mb rb X hX W h)
 simp only [h2, h1] at AS c35
 unfold didV
 clear hX hI hw h1 h2
 go_enter func37, ntmps37
 go_wp2_with fail
 refine (AS.out _ hwa).mono ?_
 rintro o w1 ⟨rfl, hk1⟩
 obtain ⟨_, _, _, _, _, _, _, _, _, _, _, _⟩ : Zc2 w1 w.heap.size 0 0 := zq167
 have hx1 := hwa.out.kept hk1
 go_wp2_with fail
 refine bodyPost_ret (v := .tuple #[.agg #[.int .i64 3, .int .i64 0], .int .i64 0]) zq527 rfl ⟨rfl, ?_, ?_⟩
 . repeat (first | (with_reducible exact hx1) | (with_reducible refine XAt.alloc ?_ _) | (with_reducible refine XAt.drew ?_) | (with_reducible refine XAt.other _ _ _ ?_ (by omega) (by omega)))
 . exact zq310
theorem set_other (w : World) (b k c j : Nat) (v : Value) (h : ¬ b = c) : (w.setCell ⟨c, k, none⟩ v).cell? ⟨b, j, none⟩ = w.cell? ⟨b, j, none⟩ :=
 World.cell?_setCell_other _ _ _ _ (by intro e; exact h (congrArg Addr.block e).symm)
theorem x_act_t0 (mb rb : Nat) (X : XS) (hI : XInv X) (h1 : X.waits = false) (hc : ¬ intD (wakX X) = -1) (w) (hw : Hid (XAt w mb rb X)) :
 CX 37 #[.pointer (some ⟨mb, 0, none⟩)] (.tuple #[didV 2 (intD (wakX X)), .int .i64 0]) [mb, rb] mb rb (tiX (wakX X) (intD (wakX X)).toNat) w := by
 have hX := hI.ok
 have hlt := hw.out.lt
 have hrlt := hw.out.rlt
 have hlt' : ¬ mb = w.heap.size := by omega
 have hwa : Hid (XAt (w.alloc (.cells #[.int .i64 0, .int .i64 0] 45)) mb rb X) := zq10
 have c35 := hw.out.c35
 have hfr := hw.out.fro
 have hxs := hide1 (hw.out.waitS.alloc (.cells #[.int .i64 0, .int .i64 0] 45))
 simp only [h1] at c35
 have hV := wak_inv hI
 have IT := hide1 (fun W h => x_interrupt mb rb (wakX X) hV.ok W h)
 have hwk : { X with waits := false } = wakX X := rfl
 have hin := int_in (wakX X)
 obtain ⟨n, hn⟩ : ∃ n : Nat, intD (wakX X) = n := ⟨(intD (wakX X)).toNat, by omega⟩
 have TI := hide1 (fun W h => x_trapInterrupt mb rb (wakX X) hV.ok n (by omega) W h)
 simp only [hn, Int.toNat_natCast] at IT hc |-
 have qc : ((n : Int) == -1) = false := zq120
 unfold didV
 try simp only [hwk] at hxs
 obtain ⟨V, hVe⟩ := zn1 (wakX X)
 simp only [<- hVe] at *
 clear hwk hVe hV hc hX hI
 clear h1
 go_enter func37, ntmps37
 go_wp2_with fail
 refine (IT.out _ hxs).mono ?_
 rintro o w1 ⟨rfl, hk1⟩
 have hx1 := hide1 (hxs.out.kept hk1)
 obtain ⟨_, _, _, _, _, _, _, _, _, _, _, _⟩ : Zc2 w1 w.heap.size 0 0 := zq178
 go_wp2_with fail
 refine (TI.out _ hx1).mono ?_
 rintro o w2 ⟨rfl, hx2, hk2⟩
 obtain ⟨_, _, _, _, _, _, _, _, _, _, _, _⟩ : Zc2 w2 w.heap.size 0 0 := zq179
 go_wp2_with fail
 refine bodyPost_ret (v := .tuple #[.agg #[.int .i64 2, .int .i64 n], .int .i64 0]) zq527 rfl ⟨rfl, ?_, ?_⟩
 . exact zq334
 . exact zq308
theorem x_act_e0 (mb rb : Nat) (X : XS) (hI : XInv X) (h1 : X.waits = false) (hc : intD (wakX X) = -1) (he : ¬ (insX (wakX X)).1.2.1 = -1) (w) (hw : Hid (XAt w mb rb X)) :
 CX 37 #[.pointer (some ⟨mb, 0, none⟩)] (.tuple #[didV 1 ((insX (wakX X)).1.2.1), .int .i64 0]) [mb, rb] mb rb (teX (insX (wakX X)).2 (insX (wakX X)).1.2.1.toNat (insX (wakX X)).1.2.2) w := by
 have hX := hI.ok
 have hlt := hw.out.lt
 have hrlt := hw.out.rlt
 have hlt' : ¬ mb = w.heap.size := by omega
 have hwa : Hid (XAt (w.alloc (.cells #[.int .i64 0, .int .i64 0] 45)) mb rb X) := zq10
 have c35 := hw.out.c35
 have hfr := hw.out.fro
 have hxs := hide1 (hw.out.waitS.alloc (.cells #[.int .i64 0, .int .i64 0] 45))
 simp only [h1] at c35
 have hV := wak_inv hI
 have IT := hide1 (fun W h => x_interrupt mb rb (wakX X) hV.ok W h)
 have hwk : { X with waits := false } = wakX X := rfl
 have hin := ins_inv hV
 have IN := hide1 (fun W h => x_instruct mb rb (wakX X) hV.ok W h)
 obtain ⟨⟨⟨N, c, t⟩, Y⟩, hR⟩ : ∃ R, R = insX (wakX X) := ⟨_, rfl⟩
 simp only [<- hR] at IN hin he |-
 try dsimp only at IN hin he |-
 simp only [hc] at IT
 obtain ⟨n, hn⟩ : ∃ n : Nat, c = n := ⟨c.toNat, by omega⟩
 subst hn
 have TE := hide1 (fun W h => x_trapException mb rb Y hin.1.ok n t (by omega) W h)
 simp only [Int.toNat_natCast] at |-
 have qc : ((n : Int) == -1) = false := zq120
 obtain ⟨op, rd, rs1, rs2, im, ln⟩ := N
 unfold niV at *
 unfold excA at IN
 try dsimp only at *
 clear hR hin
 unfold didV
 try simp only [hwk] at hxs
 obtain ⟨V, hVe⟩ := zn1 (wakX X)
 simp only [<- hVe] at *
 clear hwk hVe hV hc hX hI
 clear h1
 go_enter func37, ntmps37
 go_wp2_with fail
 refine (IT.out _ hxs).mono ?_
 rintro o w1 ⟨rfl, hk1⟩
 have hx1 := hide1 (hxs.out.kept hk1)
 obtain ⟨_, _, _, _, _, _, _, _, _, _, _, _⟩ : Zc2 w1 w.heap.size 0 0 := zq178
 go_wp2_with fail
 refine (IN.out _ hx1).mono ?_
 rintro o w2 ⟨rfl, hx2, hk2⟩
 obtain ⟨_, _, _, _, _, _, _, _, _, _, _, _⟩ : Zc2 w2 w.heap.size 0 0 := zq179
 have hx3 := hide1 (((hx2.alloc (.cells #[.int .i64 op, .int .i64 rd, .int .i64 rs1, .int .i64 rs2, .int .i64 im, .int .i64 ln] 60)).alloc (.cells #[.int .i64 n, .int .i64 t] 118)).alloc (.cells #[.int .i64 n, .int .i64 t] 118))
 go_wp2_with (go_at_call 82; refine (x_none _ _ _).mono ?_; rintro o wn ⟨rfl, rfl⟩)
 refine (TE.out _ hx3).mono ?_
 rintro o w3 ⟨rfl, hx4, hk3⟩
 obtain ⟨_, _, _, _, _, _, _, _, _, _, _, _⟩ : Zc2 w3 w.heap.size 0 0 := zq180
 obtain ⟨ic0w3, ic1w3, ic2w3, ic3w3, ic4w3, ic5w3, ifw3, izw3, izw31, inw31, izw32, inw32, izw33, inw33, izw34, inw34⟩ : Zc6 w3 w2.heap.size op rd rs1 rs2 im ln := zq181
 obtain ⟨_, _, _, _, _, _, _, _, _, _, _, _⟩ : Zc2 w3 (w2.heap.size + 1) n t := zq182
 go_wp2_with fail
 refine bodyPost_ret (v := .tuple #[.agg #[.int .i64 1, .int .i64 n], .int .i64 0]) zq527 rfl ⟨rfl, ?_, ?_⟩
 . exact zq335
 . exact zq278
theorem x_act_r0 (mb rb : Nat) (X : XS) (hI : XInv X) (h1 : X.waits = false) (hc : intD (wakX X) = -1) (he : (insX (wakX X)).1.2.1 = -1) (w) (hw : Hid (XAt w mb rb X)) :
 CX 37 #[.pointer (some ⟨mb, 0, none⟩)] (.tuple #[didV 0 0, .int .i64 (cwrD (insX (wakX X)).1.1)]) [mb, rb] mb rb ((insX (wakX X)).2) w := by
 have hX := hI.ok
 have hlt := hw.out.lt
 have hrlt := hw.out.rlt
 have hlt' : ¬ mb = w.heap.size := by omega
 have hwa : Hid (XAt (w.alloc (.cells #[.int .i64 0, .int .i64 0] 45)) mb rb X) := zq10
 have c35 := hw.out.c35
 have hfr := hw.out.fro
 have hxs := hide1 (hw.out.waitS.alloc (.cells #[.int .i64 0, .int .i64 0] 45))
 simp only [h1] at c35
 have hV := wak_inv hI
 have IT := hide1 (fun W h => x_interrupt mb rb (wakX X) hV.ok W h)
 have hwk : { X with waits := false } = wakX X := rfl
 have hin := ins_inv hV
 have IN := hide1 (fun W h => x_instruct mb rb (wakX X) hV.ok W h)
 obtain ⟨⟨⟨N, c, t⟩, Y⟩, hR⟩ : ∃ R, R = insX (wakX X) := ⟨_, rfl⟩
 simp only [<- hR] at IN hin he |-
 try dsimp only at IN hin he |-
 simp only [hc] at IT
 subst he
 have CW := hide1 (fun W => x_countersWritten N W)
 obtain ⟨z, hz⟩ := zn1 (cwrD N)
 simp only [<- hz] at CW |-
 clear hz
 obtain ⟨op, rd, rs1, rs2, im, ln⟩ := N
 unfold niV at *
 unfold excA at IN
 try dsimp only at *
 clear hR hin
 unfold didV
 try simp only [hwk] at hxs
 obtain ⟨V, hVe⟩ := zn1 (wakX X)
 simp only [<- hVe] at *
 clear hwk hVe hV hc hX hI
 clear h1
 go_enter func37, ntmps37
 go_wp2_with fail
 refine (IT.out _ hxs).mono ?_
 rintro o w1 ⟨rfl, hk1⟩
 have hx1 := hide1 (hxs.out.kept hk1)
 obtain ⟨_, _, _, _, _, _, _, _, _, _, _, _⟩ : Zc2 w1 w.heap.size 0 0 := zq178
 go_wp2_with fail
 refine (IN.out _ hx1).mono ?_
 rintro o w2 ⟨rfl, hx2, hk2⟩
 obtain ⟨_, _, _, _, _, _, _, _, _, _, _, _⟩ : Zc2 w2 w.heap.size 0 0 := zq179
 have hx3 := hide1 (((hx2.alloc (.cells #[.int .i64 op, .int .i64 rd, .int .i64 rs1, .int .i64 rs2, .int .i64 im, .int .i64 ln] 60)).alloc (.cells #[.int .i64 (-1), .int .i64 t] 118)).alloc (.cells #[.int .i64 (-1), .int .i64 t] 118))
 go_wp2_with (go_at_call 82; refine (x_none _ _ _).mono ?_; rintro o wn ⟨rfl, rfl⟩)
 refine (CW.out _).mono ?_
 rintro o w3 ⟨rfl, hk3⟩
 have hx4 := hx3.out.kept hk3
 obtain ⟨_, _, _, _, _, _, _, _, _, _, _, _⟩ : Zc2 w3 w.heap.size 0 0 := zq180
 obtain ⟨ic0w3, ic1w3, ic2w3, ic3w3, ic4w3, ic5w3, ifw3, izw3, izw31, inw31, izw32, inw32, izw33, inw33, izw34, inw34⟩ : Zc6 w3 w2.heap.size op rd rs1 rs2 im ln := zq181
 obtain ⟨_, _, _, _, _, _, _, _, _, _, _, _⟩ : Zc2 w3 (w2.heap.size + 1) (-1) t := zq182
 go_wp2_with fail
 refine bodyPost_ret (v := .tuple #[.agg #[.int .i64 0, .int .i64 0], .int .i64 z]) zq527 rfl ⟨rfl, ?_, ?_⟩
 . exact zq335
 . exact zq278
theorem x_act_t1 (mb rb : Nat) (X : XS) (hI : XInv X) (h1 : X.waits = true) (h2 : ¬ askD X = 0) (hc : ¬ intD (wakX X) = -1) (w) (hw : Hid (XAt w mb rb X)) :
 CX 37 #[.pointer (some ⟨mb, 0, none⟩)] (.tuple #[didV 2 (intD (wakX X)), .int .i64 0]) [mb, rb] mb rb (tiX (wakX X) (intD (wakX X)).toNat) w := by
 have hX := hI.ok
 have hlt := hw.out.lt
 have hrlt := hw.out.rlt
 have hlt' : ¬ mb = w.heap.size := by omega
 have hwa : Hid (XAt (w.alloc (.cells #[.int .i64 0, .int .i64 0] 45)) mb rb X) := zq10
 have c35 := hw.out.c35
 have hfr := hw.out.fro
 have AS := hide1 (fun W h => x_asked mb rb X hX W h)
 obtain ⟨q, hq⟩ := zn1 (askD X)
 simp only [<- hq] at AS h2
 have q0 : ((q : Int) == 0) = false := by simp [h2]
 simp only [h1] at c35
 have hws : Hid (∀ W, XAt W mb rb X -> XAt (W.setCell ⟨mb, 35, none⟩ (.bool false)) mb rb (wakX X)) := fun W h => h.waitS
 have hV := wak_inv hI
 have IT := hide1 (fun W h => x_interrupt mb rb (wakX X) hV.ok W h)
 have hwk : { X with waits := false } = wakX X := rfl
 have hin := int_in (wakX X)
 obtain ⟨n, hn⟩ : ∃ n : Nat, intD (wakX X) = n := ⟨(intD (wakX X)).toNat, by omega⟩
 have TI := hide1 (fun W h => x_trapInterrupt mb rb (wakX X) hV.ok n (by omega) W h)
 simp only [hn, Int.toNat_natCast] at IT hc |-
 have qc : ((n : Int) == -1) = false := zq120
 unfold didV
 skip
 obtain ⟨V, hVe⟩ := zn1 (wakX X)
 simp only [<- hVe] at *
 clear hwk hVe hV hc hX hI
 clear h1 h2 hq
 go_enter func37, ntmps37
 go_wp2_with fail
 refine (AS.out _ hwa).mono ?_
 rintro o w0 ⟨rfl, hk0⟩
 obtain ⟨_, _, _, _, _, _, _, _, _, _, _, _⟩ : Zc2 w0 w.heap.size 0 0 := zq183
 have hx0 := hwa.out.kept hk0
 have c35b := hx0.c35
 have hf0 := hx0.fro
 have hl0 := hx0.lt
 have hxs := hide1 (hws.out _ hx0)
 go_wp2_with fail
 refine (IT.out _ hxs).mono ?_
 rintro o w1 ⟨rfl, hk1⟩
 have hx1 := hide1 (hxs.out.kept hk1)
 obtain ⟨_, _, _, _, _, _, _, _, _, _, _, _⟩ : Zc2 w1 w.heap.size 0 0 := zq178
 go_wp2_with fail
 refine (TI.out _ hx1).mono ?_
 rintro o w2 ⟨rfl, hx2, hk2⟩
 obtain ⟨_, _, _, _, _, _, _, _, _, _, _, _⟩ : Zc2 w2 w.heap.size 0 0 := zq179
 go_wp2_with fail
 refine bodyPost_ret (v := .tuple #[.agg #[.int .i64 2, .int .i64 n], .int .i64 0]) zq527 rfl ⟨rfl, ?_, ?_⟩
 . exact zq334
 . repeat (first | (with_reducible exact Kept.refl _ _) | (with_reducible refine Kept.setM ?_ _ _) | (with_reducible refine Kept.setCell ?_ (Or.inr zq492) _) | (with_reducible refine Kept.drew ?_) | (with_reducible refine Kept.drewN ?_ _) | (with_reducible refine Kept.alloc ?_ _) | (with_reducible refine Kept.trans ?_ (hk2.mono (by simp))) | (with_reducible refine Kept.trans ?_ (hk1.mono (by simp))) | (with_reducible refine Kept.trans ?_ (hk0.mono (by simp))))
theorem x_act_e1 (mb rb : Nat) (X : XS) (hI : XInv X) (h1 : X.waits = true) (h2 : ¬ askD X = 0) (hc : intD (wakX X) = -1) (he : ¬ (insX (wakX X)).1.2.1 = -1) (w) (hw : Hid (XAt w mb rb X)) :
 CX 37 #[.pointer (some ⟨mb, 0, none⟩)] (.tuple #[didV 1 ((insX (wakX X)).1.2.1), .int .i64 0]) [mb, rb] mb rb (teX (insX (wakX X)).2 (insX (wakX X)).1.2.1.toNat (insX (wakX X)).1.2.2) w := by
 have hX := hI.ok
 have hlt := hw.out.lt
 have hrlt := hw.out.rlt
 have hlt' : ¬ mb = w.heap.size := by omega
 have hwa : Hid (XAt (w.alloc (.cells #[.int .i64 0, .int .i64 0] 45)) mb rb X) := zq10
 have c35 := hw.out.c35
 have hfr := hw.out.fro
 have AS := hide1 (fun W h => x_asked mb rb X hX W h)
 obtain ⟨q, hq⟩ := zn1 (askD X)
 simp only [<- hq] at AS h2
 have q0 : ((q : Int) == 0) = false := by simp [h2]
 simp only [h1] at c35
 have hws : Hid (∀ W, XAt W mb rb X -> XAt (W.setCell ⟨mb, 35, none⟩ (.bool false)) mb rb (wakX X)) := fun W h => h.waitS
 have hV := wak_inv hI
 have IT := hide1 (fun W h => x_interrupt mb rb (wakX X) hV.ok W h)
 have hwk : { X with waits := false } = wakX X := rfl
 have hin := ins_inv hV
 have IN := hide1 (fun W h => x_instruct mb rb (wakX X) hV.ok W h)
 obtain ⟨⟨⟨N, c, t⟩, Y⟩, hR⟩ : ∃ R, R = insX (wakX X) := ⟨_, rfl⟩
 simp only [<- hR] at IN hin he |-
 try dsimp only at IN hin he |-
 simp only [hc] at IT
 obtain ⟨n, hn⟩ : ∃ n : Nat, c = n := ⟨c.toNat, by omega⟩
 subst hn
 have TE := hide1 (fun W h => x_trapException mb rb Y hin.1.ok n t (by omega) W h)
 simp only [Int.toNat_natCast] at |-
 have qc : ((n : Int) == -1) = false := zq120
 obtain ⟨op, rd, rs1, rs2, im, ln⟩ := N
 unfold niV at *
 unfold excA at IN
 try dsimp only at *
 clear hR hin
 unfold didV
 skip
 obtain ⟨V, hVe⟩ := zn1 (wakX X)
 simp only [<- hVe] at *
 clear hwk hVe hV hc hX hI
 clear h1 h2 hq
 go_enter func37, ntmps37
 go_wp2_with fail
 refine (AS.out _ hwa).mono ?_
 rintro o w0 ⟨rfl, hk0⟩
 obtain ⟨_, _, _, _, _, _, _, _, _, _, _, _⟩ : Zc2 w0 w.heap.size 0 0 := zq183
 have hx0 := hwa.out.kept hk0
 have c35b := hx0.c35
 have hf0 := hx0.fro
 have hl0 := hx0.lt
 have hxs := hide1 (hws.out _ hx0)
 go_wp2_with fail
 refine (IT.out _ hxs).mono ?_
 rintro o w1 ⟨rfl, hk1⟩
 have hx1 := hide1 (hxs.out.kept hk1)
 obtain ⟨_, _, _, _, _, _, _, _, _, _, _, _⟩ : Zc2 w1 w.heap.size 0 0 := zq178
 go_wp2_with fail
 refine (IN.out _ hx1).mono ?_
 rintro o w2 ⟨rfl, hx2, hk2⟩
 obtain ⟨_, _, _, _, _, _, _, _, _, _, _, _⟩ : Zc2 w2 w.heap.size 0 0 := zq179
 have hx3 := hide1 (((hx2.alloc (.cells #[.int .i64 op, .int .i64 rd, .int .i64 rs1, .int .i64 rs2, .int .i64 im, .int .i64 ln] 60)).alloc (.cells #[.int .i64 n, .int .i64 t] 118)).alloc (.cells #[.int .i64 n, .int .i64 t] 118))
 go_wp2_with (go_at_call 82; refine (x_none _ _ _).mono ?_; rintro o wn ⟨rfl, rfl⟩)
 refine (TE.out _ hx3).mono ?_
 rintro o w3 ⟨rfl, hx4, hk3⟩
 obtain ⟨_, _, _, _, _, _, _, _, _, _, _, _⟩ : Zc2 w3 w.heap.size 0 0 := zq180
 obtain ⟨ic0w3, ic1w3, ic2w3, ic3w3, ic4w3, ic5w3, ifw3, izw3, izw31, inw31, izw32, inw32, izw33, inw33, izw34, inw34⟩ : Zc6 w3 w2.heap.size op rd rs1 rs2 im ln := zq181
 obtain ⟨_, _, _, _, _, _, _, _, _, _, _, _⟩ : Zc2 w3 (w2.heap.size + 1) n t := zq182
 go_wp2_with fail
 refine bodyPost_ret (v := .tuple #[.agg #[.int .i64 1, .int .i64 n], .int .i64 0]) zq527 rfl ⟨rfl, ?_, ?_⟩
 . exact zq335
 . exact zq336
theorem x_act_r1 (mb rb : Nat) (X : XS) (hI : XInv X) (h1 : X.waits = true) (h2 : ¬ askD X = 0) (hc : intD (wakX X) = -1) (he : (insX (wakX X)).1.2.1 = -1) (w) (hw : Hid (XAt w mb rb X)) :
 CX 37 #[.pointer (some ⟨mb, 0, none⟩)] (.tuple #[didV 0 0, .int .i64 (cwrD (insX (wakX X)).1.1)]) [mb, rb] mb rb ((insX (wakX X)).2) w := by
 have hX := hI.ok
 have hlt := hw.out.lt
 have hrlt := hw.out.rlt
 have hlt' : ¬ mb = w.heap.size := by omega
 have hwa : Hid (XAt (w.alloc (.cells #[.int .i64 0, .int .i64 0] 45)) mb rb X) := zq10
 have c35 := hw.out.c35
 have hfr := hw.out.fro
 have AS := hide1 (fun W h => x_asked mb rb X hX W h)
 obtain ⟨q, hq⟩ := zn1 (askD X)
 simp only [<- hq] at AS h2
 have q0 : ((q : Int) == 0) = false := by simp [h2]
 simp only [h1] at c35
 have hws : Hid (∀ W, XAt W mb rb X -> XAt (W.setCell ⟨mb, 35, none⟩ (.bool false)) mb rb (wakX X)) := fun W h => h.waitS
 have hV := wak_inv hI
 have IT := hide1 (fun W h => x_interrupt mb rb (wakX X) hV.ok W h)
 have hwk : { X with waits := false } = wakX X := rfl
 have hin := ins_inv hV
 have IN := hide1 (fun W h => x_instruct mb rb (wakX X) hV.ok W h)
 obtain ⟨⟨⟨N, c, t⟩, Y⟩, hR⟩ : ∃ R, R = insX (wakX X) := ⟨_, rfl⟩
 simp only [<- hR] at IN hin he |-
 try dsimp only at IN hin he |-
 simp only [hc] at IT
 subst he
 have CW := hide1 (fun W => x_countersWritten N W)
 obtain ⟨z, hz⟩ := zn1 (cwrD N)
 simp only [<- hz] at CW |-
 clear hz
 obtain ⟨op, rd, rs1, rs2, im, ln⟩ := N
 unfold niV at *
 unfold excA at IN
 try dsimp only at *
 clear hR hin
 unfold didV
 skip
 obtain ⟨V, hVe⟩ := zn1 (wakX X)
 simp only [<- hVe] at *
 clear hwk hVe hV hc hX hI
 clear h1 h2 hq
 go_enter func37, ntmps37
 go_wp2_with fail
 refine (AS.out _ hwa).mono ?_
 rintro o w0 ⟨rfl, hk0⟩
 obtain ⟨_, _, _, _, _, _, _, _, _, _, _, _⟩ : Zc2 w0 w.heap.size 0 0 := zq183
 have hx0 := hwa.out.kept hk0
 have c35b := hx0.c35
 have hf0 := hx0.fro
 have hl0 := hx0.lt
 have hxs := hide1 (hws.out _ hx0)
 go_wp2_with fail
 refine (IT.out _ hxs).mono ?_
 rintro o w1 ⟨rfl, hk1⟩
 have hx1 := hide1 (hxs.out.kept hk1)
 obtain ⟨_, _, _, _, _, _, _, _, _, _, _, _⟩ : Zc2 w1 w.heap.size 0 0 := zq178
 go_wp2_with fail
 refine (IN.out _ hx1).mono ?_
 rintro o w2 ⟨rfl, hx2, hk2⟩
 obtain ⟨_, _, _, _, _, _, _, _, _, _, _, _⟩ : Zc2 w2 w.heap.size 0 0 := zq179
 have hx3 := hide1 (((hx2.alloc (.cells #[.int .i64 op, .int .i64 rd, .int .i64 rs1, .int .i64 rs2, .int .i64 im, .int .i64 ln] 60)).alloc (.cells #[.int .i64 (-1), .int .i64 t] 118)).alloc (.cells #[.int .i64 (-1), .int .i64 t] 118))
 go_wp2_with (go_at_call 82; refine (x_none _ _ _).mono ?_; rintro o wn ⟨rfl, rfl⟩)
 refine (CW.out _).mono ?_
 rintro o w3 ⟨rfl, hk3⟩
 have hx4 := hx3.out.kept hk3
 obtain ⟨_, _, _, _, _, _, _, _, _, _, _, _⟩ : Zc2 w3 w.heap.size 0 0 := zq180
 obtain ⟨ic0w3, ic1w3, ic2w3, ic3w3, ic4w3, ic5w3, ifw3, izw3, izw31, inw31, izw32, inw32, izw33, inw33, izw34, inw34⟩ : Zc6 w3 w2.heap.size op rd rs1 rs2 im ln := zq181
 obtain ⟨_, _, _, _, _, _, _, _, _, _, _, _⟩ : Zc2 w3 (w2.heap.size + 1) (-1) t := zq182
 go_wp2_with fail
 refine bodyPost_ret (v := .tuple #[.agg #[.int .i64 0, .int .i64 0], .int .i64 z]) zq527 rfl ⟨rfl, ?_, ?_⟩
 . exact zq335
 . exact zq336
theorem x_act (mb rb : Nat) (X : XS) (hI : XInv X) (w) (hw : Hid (XAt w mb rb X)) :
 CX 37 #[.pointer (some ⟨mb, 0, none⟩)] (.tuple #[didV (actX X).1.1 (actX X).1.2.1, .int .i64 (actX X).1.2.2]) [mb, rb] mb rb ((actX X).2) w := by
 unfold actX
 by_cases h1 : X.waits = true
 . by_cases h2 : askD X = 0
   . rw [if_pos (by simp [h1, h2])]; exact x_act_i mb rb X hI h1 h2 w hw
   . rw [if_neg (by simp [h1, h2])]
     by_cases hc : intD (wakX X) = -1
     . rw [if_pos hc]; unfold actE
       by_cases he : (insX (wakX X)).1.2.1 = -1
       . rw [if_pos he]; exact x_act_r1 mb rb X hI h1 h2 hc he w hw
       . rw [if_neg he]; exact x_act_e1 mb rb X hI h1 h2 hc he w hw
     . rw [if_neg hc]; exact x_act_t1 mb rb X hI h1 h2 hc w hw
 . rw [if_neg (by simp [h1])]
   have h1 : X.waits = false := by simpa using h1
   by_cases hc : intD (wakX X) = -1
   . rw [if_pos hc]; unfold actE
     by_cases he : (insX (wakX X)).1.2.1 = -1
     . rw [if_pos he]; exact x_act_r0 mb rb X hI h1 hc he w hw
     . rw [if_neg he]; exact x_act_e0 mb rb X hI h1 hc he w hw
   . rw [if_neg hc]; exact x_act_t0 mb rb X hI h1 hc w hw
def stepX (X : XS) : (Int × Int) × XS := (((actX X).1.1, (actX X).1.2.1), cntX (actX X).2 (decide ((actX X).1.1 = 0)) (X.c.minh ||| (actX X).1.2.2.toNat))
theorem cwr_in (i : NI) : cwrD i = 0 \/ cwrD i = 1 \/ cwrD i = 4 := by
 unfold cwrD; repeat' split
 all_goals omega
theorem act_in (X : XS) : (actX X).1.2.2 = 0 \/ (actX X).1.2.2 = 1 \/ (actX X).1.2.2 = 4 := by
 unfold actX actE
 split
 . exact .inl rfl
 split
 . split
   . exact cwr_in _
   . exact .inl rfl
 . exact .inl rfl
theorem step_inv {X : XS} (h : XInv X) : XInv (stepX X).2 := cnt_inv (act_inv h).1 _ _
theorem x_Step (mb rb : Nat) (X : XS) (hI : XInv X) (w) (hw : Hid (XAt w mb rb X)) :
 CX 24 #[.pointer (some ⟨mb, 0, none⟩)] (didV (stepX X).1.1 (stepX X).1.2) [mb, rb] mb rb ((stepX X).2) w := by
 have hlt := hw.out.lt
 have hrlt := hw.out.rlt
 have hlt' : ¬ mb = w.heap.size := by omega
 have c45 := hw.out.c45
 have hwa : Hid (XAt (w.alloc (.cells #[.int .i64 0, .int .i64 0] 45)) mb rb X) := zq10
 have AC := hide1 (fun W h => x_act mb rb X hI W h)
 have hai := act_inv hI
 have han := act_in X
 unfold stepX
 obtain ⟨⟨⟨k, c, z⟩, Y⟩, hR⟩ : ∃ R, R = actX X := ⟨_, rfl⟩
 simp only [<- hR] at AC hai han |-
 try dsimp only at AC hai han |-
 obtain ⟨v, hv⟩ : ∃ v : Nat, z = v := ⟨z.toNat, by omega⟩
 subst hv
 simp only [Int.toNat_natCast] at |-
 obtain ⟨m, hm⟩ := zn1 (X.c.minh)
 have hm8 := hI.ok.minh
 simp only [<- hm] at c45 hm8 |-
 have o1 := b_or m v (by omega) (by omega)
 have hlt2 : (m ||| v) < 4294967296 := nat_or_lt m v 32 (by omega) (by omega)
 obtain ⟨u, hu⟩ := zn1 (m ||| v)
 simp only [<- hu] at o1 hlt2 |-
 obtain ⟨r, hr⟩ := zn1 (decide (k = 0))
 have hr2 : (k == 0) = r := by rw [hr]; by_cases h : k = 0 <;> simp [h]
 have CN := hide1 (fun W h => x_count mb rb Y hai.1.ok r u hlt2 W h)
 simp only [<- hr] at |-
 unfold didV at *
 clear hw hI hR hai han hm hm8 hu hr hlt2
 go_enter func24, ntmps24
 go_wp2_with fail
 refine (AC.out _ hwa).mono ?_
 rintro o w1 ⟨rfl, hx1, hk1⟩
 obtain ⟨_, _, _, _, _, _, _, _, _, _, _, _⟩ : Zc2 w1 w.heap.size 0 0 := zq167
 have hx2 := hide1 (hx1.alloc (.cells #[.int .i64 k, .int .i64 c] 45))
 go_wp2_with fail
 refine (CN.out _ hx2).mono ?_
 rintro o w2 ⟨rfl, hx3, hk2⟩
 have dc0w2 : w2.cell? ⟨w.heap.size, 0, none⟩ = some (.int .i64 0) := zq133
 have dc1w2 : w2.cell? ⟨w.heap.size, 1, none⟩ = some (.int .i64 0) := zq133
 have dfw2 : ∀ o, w2.frozen? ⟨w.heap.size, o, none⟩ = false := fun o => (hk2.frozen zq528 zq528).trans zq529
 have dzw2 : w.heap.size < w2.heap.size := zq62
 have dzw21 : w.heap.size < w2.heap.size + 1 := by omega
 have dnw21 : ¬ w.heap.size = w2.heap.size + 1 := by omega
 have dzw22 : w.heap.size < w2.heap.size + 1 + 1 := by omega
 have dnw22 : ¬ w.heap.size = w2.heap.size + 1 + 1 := by omega
 have dzw23 : w.heap.size < w2.heap.size + 1 + 1 + 1 := by omega
 have dnw23 : ¬ w.heap.size = w2.heap.size + 1 + 1 + 1 := by omega
 have dzw24 : w.heap.size < w2.heap.size + 1 + 1 + 1 + 1 := by omega
 have dnw24 : ¬ w.heap.size = w2.heap.size + 1 + 1 + 1 + 1 := by omega
 have lc0w2 : w2.cell? ⟨w1.heap.size, 0, none⟩ = some (.int .i64 k) := zq134
 have lc1w2 : w2.cell? ⟨w1.heap.size, 1, none⟩ = some (.int .i64 c) := zq134
 have lfw2 : ∀ o, w2.frozen? ⟨w1.heap.size, o, none⟩ = false := fun o => (hk2.frozen zq528 zq528).trans zq530
 have lzw2 : w1.heap.size < w2.heap.size := zq62
 have lzw21 : w1.heap.size < w2.heap.size + 1 := by omega
 have lnw21 : ¬ w1.heap.size = w2.heap.size + 1 := by omega
 have lzw22 : w1.heap.size < w2.heap.size + 1 + 1 := by omega
 have lnw22 : ¬ w1.heap.size = w2.heap.size + 1 + 1 := by omega
 have lzw23 : w1.heap.size < w2.heap.size + 1 + 1 + 1 := by omega
 have lnw23 : ¬ w1.heap.size = w2.heap.size + 1 + 1 + 1 := by omega
 have lzw24 : w1.heap.size < w2.heap.size + 1 + 1 + 1 + 1 := by omega
 have lnw24 : ¬ w1.heap.size = w2.heap.size + 1 + 1 + 1 + 1 := by omega
 go_wp2_with fail
 refine bodyPost_ret (v := .agg #[.int .i64 k, .int .i64 c]) (by simp [results, results24, go_sem, *]) rfl ⟨rfl, ?_, ?_⟩
 . repeat (first | (with_reducible exact hx3) | (with_reducible refine XAt.alloc ?_ _) | (with_reducible refine XAt.drew ?_) | (with_reducible refine XAt.other _ _ _ ?_ (by omega) (by omega)))
 . exact zq308
def runG : Nat -> Nat -> XS -> Nat × XS
 | 0, r, X => (r, X)
 | n + 1, r, X => runG n (if (stepX X).1.1 = 0 then r + 1 else r) (stepX X).2
theorem run_inv : ∀ (n r : Nat) (X : XS), XInv X -> XInv (runG n r X).2
 | 0, _, _, h => h
 | n + 1, _, _, h => run_inv n _ _ (step_inv h)
theorem x_Run_no (mb : Nat) (n : Int) (h : n < 0 \/ 4096 < n) (w : World) :
 CS 62 #[.pointer (some ⟨mb, 0, none⟩), .int .i64 n] (.tuple #[.int .i64 0, .int .i64 2]) w := by
 rcases h with h | h
 . have q : decide (n < 0) = true := by simp [h]
   exact zq337
 . have q : decide (n < 0) = false := by simp; omega
   have q2 : decide (n > 4096) = true := by simp; omega
   have q3 : decide (4096 < n) = true := by simp; omega
   exact zq337
theorem x_Run (mb rb : Nat) (X : XS) (hI : XInv X) (n : Nat) (hn : n <= 4096) (w) (hw : Hid (XAt w mb rb X)) :
 CX 62 #[.pointer (some ⟨mb, 0, none⟩), .int .i64 n] (.tuple #[.int .i64 (runG n 0 X).1, .int .i64 0]) [mb, rb] mb rb ((runG n 0 X).2) w := by
 have q : decide ((n : Int) < 0) = false := by simp
 have q2 : decide ((n : Int) > 4096) = false := by simp; omega
 have q3 : decide (4096 < (n : Int)) = false := by simp; omega
 have q3' : decide (4096 < n) = false := by simp; omega
 obtain ⟨T, hT⟩ := zn1 (runG n 0 X)
 rw [<- hT]
 have HT := hide1 hT
 have HI := hide1 hI
 clear hT hI
 go_enter func62, ntmps62
 go_wp2_with fail
 go_loopw [6, 7] (fun c d wr => ∃ (r i : Nat) (Y : XS), i <= n /\ r <= i /\ c = .int .i64 r /\ d = .int .i64 i /\ Hid (XInv Y) /\ Hid (XAt wr mb rb Y) /\ Hid (Kept [mb, rb] w wr) /\ Hid (T = runG (n - i) r Y)) (fun _ d _ => n - (intOf d).toNat)
 case atStart => exact ⟨0, 0, X, by omega, by omega, rfl, rfl, HI, hw, hide1 (Kept.refl _ _), HT⟩
 case round =>
  obtain ⟨r, i, Y, hi, hr, rfl, rfl, hY, hb, hk, hg⟩ := hrel
  clear HT HI hw
  by_cases hlt : i < n
  . have hlt' : decide ((i : Int) < (n : Int)) = true := by simp; omega
    have hg2 : Hid (T = runG (n - (i + 1)) (if (stepX Y).1.1 = 0 then r + 1 else r) (stepX Y).2) := by
     show T = _
     rw [hg.out, show n - i = (n - (i + 1)) + 1 by omega]; rfl
    clear hg
    have ST := hide1 (x_Step mb rb Y hY.out wr hb)
    have hZ := hide1 (step_inv hY.out)
    obtain ⟨⟨⟨k, c⟩, Z⟩, hR⟩ : ∃ R, R = stepX Y := ⟨_, rfl⟩
    simp only [<- hR] at ST hZ hg2
    try dsimp only at ST hZ hg2
    have hml := hb.out.lt
    have hrl := hb.out.rlt
    unfold didV at ST
    clear hR hY hb
    by_cases h0 : k = 0
    . have hg3 : Hid (T = runG (n - (i + 1)) (r + 1) Z) := by show T = _; rw [hg2.out, if_pos h0]
      have q0 : (k == 0) = true := by simp [h0]
      clear hg2 h0
      go_wp2_with fail
      refine ST.out.mono ?_
      rintro o w1 ⟨rfl, hx1, hk1⟩
      clear ST
      have hx2 := hide1 (hx1.alloc (.cells #[.int .i64 k, .int .i64 c] 45))
      have hk2 := hide1 ((hk.out.trans hk1).alloc (.cells #[.int .i64 k, .int .i64 c] 45))
      go_wp2_with fail
      go_roundw
      case rel =>
       first
        | exact ⟨r + 1, i + 1, Z, by omega, by omega, by go_num, by go_num, hZ, hx2, hk2, hg3⟩
        | ((repeat apply Exists.intro); exact ⟨⟨r + 1, i + 1, Z, by omega, by omega, by go_num, by go_num, hZ, hx2, hk2, hg3⟩, rfl⟩)
      case measure => exact zq191
    . have hg3 : Hid (T = runG (n - (i + 1)) r Z) := by show T = _; rw [hg2.out, if_neg h0]
      have q0 : (k == 0) = false := by simp [h0]
      clear hg2 h0
      go_wp2_with fail
      refine ST.out.mono ?_
      rintro o w1 ⟨rfl, hx1, hk1⟩
      clear ST
      have hx2 := hide1 (hx1.alloc (.cells #[.int .i64 k, .int .i64 c] 45))
      have hk2 := hide1 ((hk.out.trans hk1).alloc (.cells #[.int .i64 k, .int .i64 c] 45))
      go_wp2_with fail
      go_roundw
      case rel =>
       first
        | exact ⟨r, i + 1, Z, by omega, by omega, rfl, by go_num, hZ, hx2, hk2, hg3⟩
        | ((repeat apply Exists.intro); exact ⟨⟨r, i + 1, Z, by omega, by omega, rfl, by go_num, hZ, hx2, hk2, hg3⟩, rfl⟩)
      case measure => exact zq191
  . have hlt' : decide ((i : Int) < (n : Int)) = false := by simp; omega
    have hTT : Hid (T = (r, Y)) := by show T = _; rw [hg.out, show n - i = 0 by omega]; rfl
    clear hg
    go_wp2_with fail
    go_ret2
    exact ⟨by rw [hTT.out] <;> rfl, by rw [hTT.out]; exact hb.out, hk.out⟩
end
def csr0 : XCsr := ⟨0, 0, 0, 0, 0, 0, 0, 0, 0, 0, 0, 0, 0, 0, 0, 0, 0, 0, 0, 0, 0, 0, 0⟩
def hart0 (X : XS) : XS := { X with x := List.replicate 32 0, pc := 2147483648, mode := 3, waits := false, resd := false, resv := 0 }
def rstX (X : XS) : XS := { b := busRe X.b, c := csr0, x := List.replicate 32 0, pc := 2147483648, mode := 3, waits := false, resd := false, resv := 0 }
theorem info67 : (prog.info? 67).map (·.size) = some 37 := by kernel_rfl
theorem info71' : (prog.info? 71).map (·.size) = some 23 := by kernel_rfl
theorem info73 : (prog.info? 73).map (·.size) = some 5 := by kernel_rfl
theorem info75 : (prog.info? 75).map (·.size) = some 5 := by kernel_rfl
def hart0L : List Value := [.int .i64 0, .int .i64 0, .int .i64 0, .int .i64 0, .int .i64 0, .int .i64 0, .int .i64 0, .int .i64 0, .int .i64 0, .int .i64 0, .int .i64 0, .int .i64 0, .int .i64 0, .int .i64 0, .int .i64 0, .int .i64 0, .int .i64 0, .int .i64 0, .int .i64 0, .int .i64 0, .int .i64 0, .int .i64 0, .int .i64 0, .int .i64 0, .int .i64 0, .int .i64 0, .int .i64 0, .int .i64 0, .int .i64 0, .int .i64 0, .int .i64 0, .int .i64 0, .int .i64 2147483648, .int .i64 3, .bool false, .bool false, .int .i64 0]
def csr0L : List Value := [.int .i64 0, .int .i64 0, .int .i64 0, .int .i64 0, .int .i64 0, .int .i64 0, .int .i64 0, .int .i64 0, .int .i64 0, .int .i64 0, .int .i64 0, .int .i64 0, .int .i64 0, .int .i64 0, .int .i64 0, .int .i64 0, .int .i64 0, .int .i64 0, .int .i64 0, .int .i64 0, .int .i64 0, .int .i64 0, .int .i64 0]
def timer0L : List Value := [.int .i64 0, .int .i64 0, .int .i64 0, .int .i64 4294967295, .int .i64 4294967295]
def port0L : List Value := [.int .i64 0, .int .i64 0, .bool false, .string ⟨#[]⟩, .string ⟨#[]⟩]
theorem x_Reset (mb rb X w) (hw : Hid (XAt w mb rb X)) :
 CX 35 #[.pointer (some ⟨mb, 0, none⟩)] (.tuple #[]) [mb] mb rb (rstX X) w := by
 have hx1 := hide1 (hw.out.setCs (X' := hart0 X) 1 hart0L rfl (by decide) rfl)
 have hx2 := hide1 (hx1.out.setCs (X' := { hart0 X with c := csr0 }) 38 csr0L rfl (by decide) rfl)
 have hx3 := hide1 (hx2.out.setCs (X' := { hart0 X with c := csr0, b := { X.b with msip := 0, time := 0, timeh := 0, cmp := 4294967295, cmph := 4294967295 } }) 61 timer0L rfl (by decide) rfl)
 have hx4 := hide1 (hx3.out.setCs (X' := rstX X) 66 port0L rfl (by decide) rfl)
 have hk4 : Hid (Kept [mb] w ((((w.setCells mb 1 hart0L).setCells mb 38 csr0L).setCells mb 61 timer0L).setCells mb 66 port0L)) := hide1 (Kept.setCs _ (.inl (by simp)) _ _ _ (Kept.setCs _ (.inl (by simp)) _ _ _ (Kept.setCs _ (.inl (by simp)) _ _ _ (Kept.setCs _ (.inl (by simp)) _ _ _ (Kept.refl _ _)))))
 have t1 := hide1 (hw.out.there' 1 37 (by decide))
 have t2 := hide1 (hx1.out.there' 38 23 (by decide))
 have t3 := hide1 (hx2.out.there' 61 5 (by decide))
 have t4 := hide1 (hx3.out.there' 66 5 (by decide))
 clear hw hx1 hx2 hx3
 go_enter func35, ntmps35
 go_upto_region 0 with fail
 refine wp_region_lit ?_
 refine wpList_plain rfl (fun K hK => ?_)
 go_simp
 refine hK _ _ ?_
 clear hK K
 refine wpList_plain rfl (fun K hK => ?_)
 go_simp
 refine hK _ _ ?_
 clear hK K
 refine wpList_plain rfl (fun K hK => ?_)
 go_simp
 refine hK _ _ ?_
 clear hK K
 refine wpList_plain rfl (fun K hK => ?_)
 go_simp
 refine hK _ _ ?_
 clear hK K
 refine wpList_store_mid rfl _ _ _ rfl mb 1 hart0L.toArray rfl rfl t1.out (by rw [info67]; rfl) zq531 ?_
 refine wpList_nil ?_
 go_upto_region 1 with fail
 refine wp_region_lit ?_
 refine wpList_plain rfl (fun K hK => ?_)
 go_simp
 refine hK _ _ ?_
 clear hK K
 refine wpList_plain rfl (fun K hK => ?_)
 go_simp
 refine hK _ _ ?_
 clear hK K
 refine wpList_plain rfl (fun K hK => ?_)
 go_simp
 refine hK _ _ ?_
 clear hK K
 refine wpList_plain rfl (fun K hK => ?_)
 go_simp
 refine hK _ _ ?_
 clear hK K
 refine wpList_store_mid rfl _ _ _ rfl mb 38 csr0L.toArray rfl rfl t2.out (by rw [info71']; rfl) zq531 ?_
 refine wpList_nil ?_
 go_upto_region 2 with fail
 refine wp_region_lit ?_
 refine wpList_plain rfl (fun K hK => ?_)
 go_simp
 refine hK _ _ ?_
 clear hK K
 refine wpList_plain rfl (fun K hK => ?_)
 go_simp
 refine hK _ _ ?_
 clear hK K
 refine wpList_plain rfl (fun K hK => ?_)
 go_simp
 refine hK _ _ ?_
 clear hK K
 refine wpList_plain rfl (fun K hK => ?_)
 go_simp
 refine hK _ _ ?_
 clear hK K
 refine wpList_plain rfl (fun K hK => ?_)
 go_simp
 refine hK _ _ ?_
 clear hK K
 refine wpList_store_mid rfl _ _ _ rfl mb 61 timer0L.toArray rfl rfl t3.out (by rw [info73]; rfl) zq531 ?_
 refine wpList_nil ?_
 go_upto_region 3 with fail
 refine wp_region_lit ?_
 refine wpList_plain rfl (fun K hK => ?_)
 go_simp
 refine hK _ _ ?_
 clear hK K
 refine wpList_plain rfl (fun K hK => ?_)
 go_simp
 refine hK _ _ ?_
 clear hK K
 refine wpList_plain rfl (fun K hK => ?_)
 go_simp
 refine hK _ _ ?_
 clear hK K
 refine wpList_plain rfl (fun K hK => ?_)
 go_simp
 refine hK _ _ ?_
 clear hK K
 refine wpList_store_mid rfl _ _ _ rfl mb 66 port0L.toArray rfl rfl t4.out (by rw [info75]; rfl) zq531 ?_
 refine wpList_nil ?_
 go_wp2_with fail
 go_end0
 exact ⟨rfl, hx4.out, hk4.out⟩
def bus00 (n : Nat) : BusS := { ram := List.replicate n 0, msip := 0, time := 0, timeh := 0, cmp := 0, cmph := 0, enable := 0, scratch := 0, lost := false, rx := ⟨#[]⟩, tx := ⟨#[]⟩ }
def mac00 (n : Nat) : XS := { b := bus00 n, c := csr0, x := List.replicate 32 0, pc := 0, mode := 0, waits := false, resd := false, resv := 0 }
def newX (n : Nat) : XS := rstX (mac00 n)
theorem x_New_no (n : Int) (h : n < 0 \/ 65536 < n) (w : World) :
 CS 22 #[.int .i64 n] (.tuple #[.pointer none, .int .i64 2]) w := by
 rcases h with h | h
 . have q : decide (n < 0) = true := by simp [h]
   exact zq338
 . have q : decide (n < 0) = false := by simp; omega
   have q2 : decide (n > 65536) = true := by simp; omega
   have q3 : decide (65536 < n) = true := by simp; omega
   exact zq338
def macC (rb n : Nat) : Obj := .cells #[.slice (some ⟨rb, 0, none⟩) n n, .int .i64 0, .int .i64 0, .int .i64 0, .int .i64 0, .int .i64 0, .int .i64 0, .int .i64 0, .int .i64 0, .int .i64 0, .int .i64 0, .int .i64 0, .int .i64 0, .int .i64 0, .int .i64 0, .int .i64 0, .int .i64 0, .int .i64 0, .int .i64 0, .int .i64 0, .int .i64 0, .int .i64 0, .int .i64 0, .int .i64 0, .int .i64 0, .int .i64 0, .int .i64 0, .int .i64 0, .int .i64 0, .int .i64 0, .int .i64 0, .int .i64 0, .int .i64 0, .int .i64 0, .int .i64 0, .bool false, .bool false, .int .i64 0, .int .i64 0, .int .i64 0, .int .i64 0, .int .i64 0, .int .i64 0, .int .i64 0, .int .i64 0, .int .i64 0, .int .i64 0, .int .i64 0, .int .i64 0, .int .i64 0, .int .i64 0, .int .i64 0, .int .i64 0, .int .i64 0, .int .i64 0, .int .i64 0, .int .i64 0, .int .i64 0, .int .i64 0, .int .i64 0, .int .i64 0, .int .i64 0, .int .i64 0, .int .i64 0, .int .i64 0, .int .i64 0, .int .i64 0, .int .i64 0, .bool false, .string ⟨#[]⟩, .string ⟨#[]⟩] 77
theorem macC_eq (rb n : Nat) : macC rb n = .cells (xL rb (mac00 n)).toArray 77 := by
 unfold macC xL mac00 bus00 csr0
 simp
theorem mac00_at (W : World) (n : Nat) : XAt ((W.alloc (.cells (madeCells #[.int .u8 0] n) 5)).alloc (macC W.heap.size n)) (W.heap.size + 1) W.heap.size (mac00 n) := by
 have hk : Below (W.alloc (.cells (madeCells #[.int .u8 0] n) 5)).heap.size (W.alloc (.cells (madeCells #[.int .u8 0] n) 5)) ((W.alloc (.cells (madeCells #[.int .u8 0] n) 5)).alloc (macC W.heap.size n)) := zq135
 have hr : ∀ j, j < n -> (W.alloc (.cells (madeCells #[.int .u8 0] n) 5)).cell? ⟨W.heap.size, j, none⟩ = some (.int .u8 0) := by
  intro j hj
  simp [madeCells, hj, Nat.mod_one]
 have hf : ∀ o, (W.alloc (.cells (madeCells #[.int .u8 0] n) 5)).frozen? ⟨W.heap.size, o, none⟩ = false := by intro o; simp
 refine ⟨fun k hk71 => ?_, fun o => ?_, ?_, fun j hj => ?_, fun o => ?_, ?_, ?_⟩
 . rw [macC_eq]; simp
 . rw [macC_eq]; simp
 . simp
 . have hj' : j < n := by simpa [mac00, bus00] using hj
   rw [hk.cell (p := ⟨W.heap.size, j, none⟩) (by simp), hr j hj']
   simp [mac00, bus00]
 . rw [hk.frozen (p := ⟨W.heap.size, o, none⟩) (by simp), hf o]
 . simp; omega
 . omega
theorem x_New (n : Nat) (hn : n <= 65536) (W : World) :
 Calls prog 22 #[.int .i64 n] W fun e w' => e = .returned (.tuple #[.pointer (some ⟨W.heap.size + 1, 0, none⟩), .int .i64 0]) /\ XAt w' (W.heap.size + 1) W.heap.size (newX n) /\ Kept [] W w' := by
 obtain ⟨i0, hi, hz0, hz1, hz2⟩ := info_parts Tryz.info5
 have e0 : decide ((n : Int) < 0) = false := by simp
 have e1 : decide (65536 < (n : Int)) = false := by simp; omega
 have e1' : decide ((n : Int) > 65536) = false := by simp; omega
 have e2 : decide (65536 < n) = false := by simp; omega
 have hmk : ∀ w, (Instr.makeSlice 64 (.int .i64 (n : Int)) (.int .i64 (n : Int))).run prog w = .ok (.slice (some ⟨w.heap.size, 0, none⟩) n n) (w.alloc (.cells (madeCells #[.int .u8 0] n) 5)) := by
  intro w
  have h := run_makeSlice (P := prog) w 64 5 i0 (.int .u8 0) Tryz.underlying64 hi hz0 .i64 .i64 n n (by omega) (Int.le_refl _) (by rw [hz1]; omega) (by rw [hz2]; omega) (by omega)
  rw [hz1] at h
  simpa [Value.cells] using h
 obtain ⟨o1, ho1⟩ := zn1 (Obj.cells (madeCells #[.int .u8 0] n) 5)
 have hb0 := mac00_at W n
 rw [<- ho1] at hb0 hmk
 have R := hide1 (x_Reset (W.heap.size + 1) W.heap.size _ _ (hide1 hb0))
 have HK : Hid (Kept [] W ((W.alloc o1).alloc (macC W.heap.size n))) := hide1 (((Kept.refl _ _).alloc _).alloc _)
 have HKB : Hid (∀ w', Kept [W.heap.size + 1] ((W.alloc o1).alloc (macC W.heap.size n)) w' -> Kept [] W w') := hide1 (fun w' hk => ⟨hk.os.trans HK.out.os, hk.tape.trans HK.out.tape, hk.output.trans HK.out.output, Nat.le_trans HK.out.size hk.size, fun k hkk _ => (hk.block k (Nat.lt_of_lt_of_le hkk HK.out.size) (by simp; omega)).trans (HK.out.block k hkk (by simp))⟩)
 unfold macC at R HKB
 unfold newX
 clear hb0 HK ho1
 go_enter func22, ntmps22
 go_wp2_with fail
 refine R.out.mono ?_
 rintro e w1 ⟨rfl, hb1, hk1⟩
 go_wp2_with fail
 go_ret2
 exact ⟨rfl, hb1, HKB.out _ hk1⟩
end Go.Proofs.YtmlgonbhoknoiabGreatDoor
