import Derived.Test.YtmlgonbhoknoiabGreatDoorYAN
set_option maxHeartbeats 8000000
set_option linter.all false
namespace Go.Proofs.YtmlgonbhoknoiabGreatDoor
open Go.RowKit Go.Proofs.Tryz
theorem xset_tb (v k i : Nat) (b : Bool) : (xsetD v (2 ^ k) b).testBit i = if i = k then b else v.testBit i := by
 unfold xsetD
 cases b
 . dsimp only [cond]
   rw [wout_tb, Nat.testBit_two_pow]
   exact zq405
 . dsimp only [cond]
   rw [Nat.testBit_or, Nat.testBit_two_pow]
   exact zq405
theorem tst_and (s k : Nat) : (!decide (s &&& 2 ^ k = 0)) = s.testBit k := by
 rw [and_bit, bitN_tb]
 have := Nat.two_pow_pos k
 cases s.testBit k
 . simp
 . simp
theorem str_tb (s mode i : Nat) : (xstrD s mode).testBit i = if i = 1 then false else if i = 8 then decide (mode = 1) else if i = 5 then s.testBit 1 else s.testBit i := by
 have e : xstrD s mode = xsetD (xsetD (xsetD s (2 ^ 5) (!decide (s &&& 2 ^ 1 = 0))) (2 ^ 8) (decide (mode = 1))) (2 ^ 1) false := rfl
 rw [e, xset_tb, xset_tb, xset_tb, tst_and]
theorem mtr_tb (s mode i : Nat) (hm : mode < 4) : (xmtrD s mode).testBit i = if i = 3 then false else if i = 11 \/ i = 12 then mode.testBit (i - 11) else if i = 7 then s.testBit 3 else s.testBit i := by
 have e : xmtrD s mode = xsetD (xmixD (xsetD s (2 ^ 7) (!decide (s &&& 2 ^ 3 = 0))) (mode * 2 ^ 11) 6144) (2 ^ 3) false := rfl
 rw [e, xset_tb, tst_and]
 by_cases h3 : i = 3
 . rw [if_pos h3, if_pos h3]
 rw [if_neg h3, if_neg h3]
 unfold xmixD
 have e2 : Nat.testBit 6144 i = decide (i = 11 \/ i = 12) := by
  by_cases hi : i < 13
  . exact zq406
  . exact zq407
 rw [Nat.testBit_or, Nat.testBit_and, wout_tb, e2, xset_tb, Nat.testBit_mul_two_pow]
 by_cases h : i = 11 \/ i = 12
 . rw [if_pos h]; simp [h]; omega
 . rw [if_neg h]; simp [h]
theorem mret_tb (s i : Nat) : (xmretD s).testBit i = if i = 7 then true else if i = 11 \/ i = 12 then false else if i = 3 then (xmretA s).testBit 7 else (xmretA s).testBit i := by
 have e : xmretD s = xsetD (wout (xsetD (xmretA s) (2 ^ 3) (!decide (xmretA s &&& 2 ^ 7 = 0))) 6144) (2 ^ 7) true := rfl
 have e2 : Nat.testBit 6144 i = decide (i = 11 \/ i = 12) := by
  by_cases hi : i < 13
  . exact zq406
  . exact zq407
 rw [e, xset_tb, wout_tb, e2, xset_tb, tst_and]
 by_cases h : i = 11 \/ i = 12
 . rw [if_pos h]; simp [h]
 . rw [if_neg h]; simp [h]
theorem mretA_tb (s i : Nat) : (xmretA s).testBit i = if i = 17 /\ ¬ s / 2048 % 4 = 3 then false else s.testBit i := by
 unfold xmretA
 by_cases h : s &&& 6144 = 6144
 . rw [if_pos h, if_neg (by have := mpp3 s h; omega)]
 . rw [if_neg h]
   have e : wout s 131072 = xsetD s (2 ^ 17) false := rfl
   have h3 : ¬ s / 2048 % 4 = 3 := by
    intro q
    apply h
    have e3 : s &&& 6144 = s / 2048 % 4 * 2048 := by
     rw [<- and6144]
     apply Nat.eq_of_testBit_eq
     intro i
     rw [Nat.mul_comm, show (2048 : Nat) = 2 ^ 11 from rfl, Nat.mul_comm, Nat.testBit_mul_two_pow, Nat.testBit_div_two_pow]
     by_cases hi : 11 <= i
     . rw [show i - 11 + 11 = i by omega]; simp [hi]
     . simp [hi]
       intro _
       have : i = 0 \/ i = 1 \/ i = 2 \/ i = 3 \/ i = 4 \/ i = 5 \/ i = 6 \/ i = 7 \/ i = 8 \/ i = 9 \/ i = 10 := by omega
       rcases this with rfl | rfl | rfl | rfl | rfl | rfl | rfl | rfl | rfl | rfl | rfl <;> decide
    rw [e3, q]
   rw [e, xset_tb]
   by_cases h17 : i = 17
   . rw [if_pos h17, if_pos ⟨h17, h3⟩]
   . rw [if_neg h17, if_neg (fun q => h17 q.1)]
theorem sret_tb (s i : Nat) : (xsretD s).testBit i = if i = 5 then true else if i = 8 \/ i = 17 then false else if i = 1 then s.testBit 5 else s.testBit i := by
 have e : xsretD s = xsetD (wout (xsetD s (2 ^ 1) (!decide (s &&& 2 ^ 5 = 0))) 131328) (2 ^ 5) true := rfl
 have e2 : Nat.testBit 131328 i = decide (i = 8 \/ i = 17) := by
  have : (131328 : Nat) = xsetD (xsetD 0 (2 ^ 8) true) (2 ^ 17) true := by decide
  rw [this, xset_tb, xset_tb, Nat.zero_testBit]
  by_cases h : i = 17 <;> by_cases h' : i = 8 <;> simp [h, h']
 rw [e, xset_tb, wout_tb, e2, xset_tb, tst_and]
 by_cases h : i = 8 \/ i = 17
 . rw [if_pos h]; simp [h]
 . rw [if_neg h]; simp [h]
theorem bitV {x y : Int} {v : Nat} (i : Nat) (hv : v < 4294967296) (hx : (v : Int) / 2 ^ i = x) (hy : y = 1) : bits .and .i64 x y = ((v.testBit i).toNat : Nat) := by
 have e : x = ((v / 2 ^ i : Nat) : Int) := by rw [<- hx]; simp
 have l : v / 2 ^ i < 4294967296 := Nat.lt_of_le_of_lt (Nat.div_le_self _ _) hv
 rw [andE e (m := 1) hy l (by decide), Nat.and_one_is_mod, Nat.testBit_eq_decide_div_mod_eq]
 have : v / 2 ^ i % 2 < 2 := Nat.mod_lt _ (by decide)
 by_cases h : v / 2 ^ i % 2 = 1
 . simp [h]
 . have : v / 2 ^ i % 2 = 0 := by omega
   simp [this]
theorem xor0 {x y m : Int} {a b M : Nat} (hx : x = (a : Nat)) (hy : y = (b : Nat)) (hm : m = (M : Nat)) (ha : a < 4294967296) (hb : b < 4294967296) (hM : M < 4294967296) (h : ∀ i, i < 32 -> M.testBit i = false -> a.testBit i = b.testBit i) : bits .andNot .i64 (bits .xor .i64 x y) m = 0 := by
 rw [hx, hy, hm, b_xor a b (by omega) (by omega)]
 have l : a ^^^ b < 2 ^ 32 := Nat.xor_lt_two_pow ha hb
 rw [b_andn _ _ (by omega) (by omega)]
 have : wout (a ^^^ b) M = 0 := by
  apply Nat.eq_of_testBit_eq
  intro i
  rw [wout_tb, Nat.zero_testBit, Nat.testBit_xor]
  cases hM' : M.testBit i
  . by_cases hi : i < 32
    . rw [h i hi hM']; simp
    . have q : ∀ z, z < 4294967296 -> z.testBit i = false := fun z hz => Nat.testBit_lt_two_pow (Nat.lt_of_lt_of_le hz (Nat.pow_le_pow_right (n := 2) (by decide) (by omega : 32 <= i)))
      rw [q a ha, q b hb]; rfl
  . simp
 rw [this]; rfl
theorem regG_app (x : List Nat) : ∀ (n k : Nat) (s : ByteArray), regG x n k s = s ++ regG x n k ⟨#[]⟩
 | 0, _, s => (ByteArray.append_empty).symm
 | n + 1, k, s => by
  rw [regG, regG, regG_app x n (k + 1) (s ++ leA (x.getD k 0) 4), regG_app x n (k + 1) (⟨#[]⟩ ++ leA (x.getD k 0) 4), ByteArray.append_assoc]
  congr 1
theorem regs_of (X : XS) : (showX X).extract 4 132 = regG X.x 32 0 ⟨#[]⟩ := by
 have e : ∃ R : ByteArray, showX X = leA X.pc 4 ++ (regG X.x 32 0 ⟨#[]⟩ ++ R) := by
  unfold showX hartS
  rw [regG_app X.x 32 0 (leA X.pc 4)]
  simp only [ByteArray.append_assoc]
  exact ⟨_, rfl⟩
 obtain ⟨R, e⟩ := e
 rw [e]
 have z1 : (leA X.pc 4).size = 4 := leA_size _ _
 have z2 : (regG X.x 32 0 ⟨#[]⟩).size = 128 := by rw [regG_size]; rfl
 apply ByteArray.ext
 apply Array.toList_inj.1
 rw [ByteArray.data_extract, Array.toList_extract, List.extract_eq_take_drop]
 simp only [ByteArray.data_append, Array.toList_append]
 have l1 : (leA X.pc 4).data.toList.length = 4 := z1
 have l2 : (regG X.x 32 0 ⟨#[]⟩).data.toList.length = 128 := z2
 rw [List.drop_append_of_le_length (by omega), List.drop_eq_nil_of_le (by omega), List.nil_append, List.take_append_of_le_length (by omega), List.take_of_length_le (by omega)]
structure Trp (X' : XS) (f g : Fc) (k : Int) (c : Nat) (s : Bool) : Prop where
 hk : k = 1 \/ k = 2
 c32 : c < 32
 dg : ∃ DG : Nat, DG < 4294967296 /\ (k = 2 -> f.mideleg = DG) /\ (k = 1 -> f.medeleg = DG) /\ (!(f.mode == 3) && bitN DG c) = s
 lt : ¬ g.mode < f.mode
 g1 : (g.mode == 1) = s
 rg : g.regs = f.regs
 v : ∃ V : Nat, V < 4294967296 /\ (xcsrE X' (bif s then 261 else 773)).1 = V /\ g.pc = ((if k = 2 /\ V % 2 = 1 then (wout V 3 + 4 * c) % 4294967296 else wout V 3 : Nat) : Int)
 ca : (xcsrE X' (bif s then 322 else 834)).1 = c + (if k = 2 then 2147483648 else 0)
 ep : (((xcsrE X' (bif s then 321 else 833)).1 : Nat) : Int) = f.pc
 sS : s = true -> bits .and .i64 (g.status / 256) 1 = f.mode /\ bits .and .i64 (g.status / 2) 1 = 0 /\ bits .and .i64 (g.status / 32) 1 = bits .and .i64 (f.status / 2) 1 /\ bits .andNot .i64 (bits .xor .i64 g.status f.status) 290 = 0
 sM : s = false -> bits .and .i64 (g.status / 2048) 3 = f.mode /\ bits .and .i64 (g.status / 8) 1 = 0 /\ bits .and .i64 (g.status / 128) 1 = bits .and .i64 (f.status / 8) 1 /\ bits .andNot .i64 (bits .xor .i64 g.status f.status) 6280 = 0
theorem hdl_k (V c : Nat) (k : Int) (hk : k = 1 \/ k = 2) (hc : c < 32) (hV : V < 4294967296) : xhdlD V (c + (if k = 2 then 2147483648 else 0)) = if k = 2 /\ V % 2 = 1 then (wout V 3 + 4 * c) % 4294967296 else wout V 3 := by
 unfold xhdlD
 rw [Nat.and_one_is_mod]
 by_cases h2 : k = 2
 . rw [if_pos h2]
   by_cases h1 : V % 2 = 1
   . rw [if_pos ⟨by omega, by omega⟩, if_pos ⟨h2, h1⟩, show c + 2147483648 - 2147483648 = c by omega]
   . rw [if_neg (by omega), if_neg (by omega)]
 . rw [if_neg h2, if_neg (by omega), if_neg (fun q => h2 q.1)]
theorem and_3v {x y : Int} {v : Nat} (hx : x = (v : Nat)) (hy : y = 3) (hv : v < 4294967296) : bits .and .i64 x y = ((v % 4 : Nat) : Int) := by
 rw [andE hx (m := 3) hy hv (by decide), show v &&& 3 = v % 4 from Nat.and_two_pow_sub_one_eq_mod v 2]
theorem trp_core {X Y X' : XS} (hX : XInv X) (hX' : XInv X') (em : Y.mode = X.mode) (ec : Y.c = X.c) (ex : Y.x = X.x) (ep : Y.pc = X.pc) (k : Int) (hk : k = 1 \/ k = 2) (c t h DG : Nat) (hc : c < 32) (hD : DG < 4294967296) {f g : Fc} (fx : FcX X f) (gx : FcX X' g) (d2 : k = 2 -> f.mideleg = DG) (d1 : k = 1 -> f.medeleg = DG)
 (e : X' = cntX (if dlgB Y DG c = true then tsX Y (c + (if k = 2 then 2147483648 else 0)) t else tmX Y (c + (if k = 2 then 2147483648 else 0)) t) false h) : Trp X' f g k c (dlgB Y DG c) := by
 have hO := hX.ok
 have m := hO.mode
 have fm := fx.mode
 have fs : f.status = ((X.c.mstatus : Nat) : Int) := fx.status
 have gs : g.status = ((X'.c.mstatus : Nat) : Int) := gx.status
 have gl := hX'.ok.mstatus
 have rgs : X'.x = X.x -> g.regs = f.regs := fun q => by rw [gx.regs, fx.regs, regs_of, regs_of, q]
 obtain ⟨C, hC⟩ := zn1 (c + (if k = 2 then 2147483648 else 0))
 have HK := hdl_k
 have s0 : (!(f.mode == 3) && bitN DG c) = dlgB Y DG c := by
  unfold dlgB
  rw [em]
  have q : (f.mode == 3) = decide (X.mode = 3) := by rw [fm, Bool.eq_iff_iff]; simp; omega
  rw [q]
  congr 1
  by_cases q3 : X.mode = 3 <;> simp [q3]
 cases hs : dlgB Y DG c
 . rw [hs, if_neg (by decide)] at e
   have e2 : X'.mode = 3 /\ X'.pc = xhdlD Y.c.mtvec (c + (if k = 2 then 2147483648 else 0)) /\ X'.c.mtvec = Y.c.mtvec /\ X'.c.mcause = c + (if k = 2 then 2147483648 else 0) /\ X'.c.mepc = Y.pc /\ X'.c.mstatus = xmtrD Y.c.mstatus Y.mode /\ X'.x = Y.x := by rw [e]; exact ⟨rfl, rfl, rfl, rfl, rfl, rfl, rfl⟩
   obtain ⟨e3, e4, e5, e6, e7, e8, e9⟩ := e2
   have gm := gx.mode
   rw [e3] at gm
   rw [ec, em] at e8
   have tb := fun i => mtr_tb X.c.mstatus X.mode i (by omega)
   rw [<- e8] at tb
   refine ⟨hk, hc, ⟨DG, hD, d2, d1, by rw [s0, hs]⟩, by omega, by rw [gm]; rfl, rgs (by rw [e9, ex]), ⟨X.c.mtvec, hO.mtvec, ?_, ?_⟩, e6, ?_, (fun q => by cases q), fun _ => ⟨?_, ?_, ?_, ?_⟩⟩
   . show X'.c.mtvec = _; rw [e5, ec]
   . rw [gx.pc, e4, ec, HK _ _ _ hk hc hO.mtvec]
   . show ((X'.c.mepc : Nat) : Int) = _; rw [e7, ep, fx.pc]
   . rw [and_3v (v := X'.c.mstatus / 2048) (by rw [gs]; rfl) rfl (by omega), fm]
     congr 1
     apply Nat.eq_of_testBit_eq
     intro i
     rw [show (4 : Nat) = 2 ^ 2 from rfl, show (2048 : Nat) = 2 ^ 11 from rfl, Nat.testBit_mod_two_pow, Nat.testBit_div_two_pow, tb]
     by_cases hi : i < 2
     . rw [if_neg (by omega), if_pos (by omega), show i + 11 - 11 = i by omega]; simp [hi]
     . simp [hi]
       apply Nat.testBit_lt_two_pow
       exact Nat.lt_of_lt_of_le (show X.mode < 2 ^ 2 by omega) (Nat.pow_le_pow_right (by decide) (by omega))
   . rw [bitV 3 gl (by rw [gs]; rfl) rfl, tb, if_pos rfl]; rfl
   . rw [bitV 7 gl (by rw [gs]; rfl) rfl, bitV 3 hO.mstatus (by rw [fs]; rfl) rfl, tb]; rfl
   . refine xor0 gs fs (M := 6280) rfl gl hO.mstatus (by decide) (fun i hi hM => ?_)
     rw [tb]
     by_cases i3 : i = 3
     . subst i3; exact absurd hM (by decide)
     by_cases i11 : i = 11 \/ i = 12
     . rcases i11 with rfl | rfl <;> exact absurd hM (by decide)
     by_cases i7 : i = 7
     . subst i7; exact absurd hM (by decide)
     rw [if_neg i3, if_neg i11, if_neg i7]
 . rw [hs, if_pos rfl] at e
   have h3 := dlg_mode hs
   rw [em] at h3
   have e2 : X'.mode = 1 /\ X'.pc = xhdlD Y.c.stvec (c + (if k = 2 then 2147483648 else 0)) /\ X'.c.stvec = Y.c.stvec /\ X'.c.scause = c + (if k = 2 then 2147483648 else 0) /\ X'.c.sepc = Y.pc /\ X'.c.mstatus = xstrD Y.c.mstatus Y.mode /\ X'.x = Y.x := by rw [e]; exact ⟨rfl, rfl, rfl, rfl, rfl, rfl, rfl⟩
   obtain ⟨e3, e4, e5, e6, e7, e8, e9⟩ := e2
   have gm := gx.mode
   rw [e3] at gm
   rw [ec, em] at e8
   have tb := fun i => str_tb X.c.mstatus X.mode i
   rw [<- e8] at tb
   refine ⟨hk, hc, ⟨DG, hD, d2, d1, by rw [s0, hs]⟩, by omega, by rw [gm]; rfl, rgs (by rw [e9, ex]), ⟨X.c.stvec, hO.stvec, ?_, ?_⟩, e6, ?_, fun _ => ⟨?_, ?_, ?_, ?_⟩, fun q => by cases q⟩
   . show X'.c.stvec = _; rw [e5, ec]
   . rw [gx.pc, e4, ec, HK _ _ _ hk hc hO.stvec]
   . show ((X'.c.sepc : Nat) : Int) = _; rw [e7, ep, fx.pc]
   . rw [bitV 8 gl (by rw [gs]; rfl) rfl, tb, if_neg (by decide), if_pos rfl, fm]
     rcases m with q | q | q
     . rw [q]; rfl
     . rw [q]; rfl
     . exact absurd q h3
   . rw [bitV 1 gl (by rw [gs]; rfl) rfl, tb, if_pos rfl]; rfl
   . rw [bitV 5 gl (by rw [gs]; rfl) rfl, bitV 1 hO.mstatus (by rw [fs]; rfl) rfl, tb]; rfl
   . refine xor0 gs fs (M := 290) rfl gl hO.mstatus (by decide) (fun i hi hM => ?_)
     rw [tb]
     by_cases i1 : i = 1
     . subst i1; exact absurd hM (by decide)
     by_cases i8 : i = 8
     . subst i8; exact absurd hM (by decide)
     by_cases i5 : i = 5
     . subst i5; exact absurd hM (by decide)
     rw [if_neg i1, if_neg i8, if_neg i5]
theorem trp_of {X : XS} (hX : XInv X) {f g : Fc} (fx : FcX X f) (gx : FcX (stepX X).2 g) (h : (stepX X).1.1 = 1 \/ (stepX X).1.1 = 2) : ∃ (c : Nat) (s : Bool), (stepX X).1.2 = c /\ Trp (stepX X).2 f g (stepX X).1.1 c s := by
 have hX' := step_inv hX
 rcases step_is hX with ⟨e, _, _⟩ | ⟨c, hc, e, e'⟩ | ⟨_, _, e, _⟩ | ⟨_, c, hc, he, e, e'⟩
 . exact zq408
 . have hin := int_in X
   rw [e]
   refine ⟨c, _, rfl, trp_core (Y := wakX X) hX hX' rfl rfl rfl rfl 2 (.inr rfl) c 0 X.c.minh X.c.mideleg (by omega) hX.ok.mideleg fx gx (fun _ => fx.mideleg) (fun q => absurd q (by decide)) ?_⟩
   rw [e']
   rfl
 . exact zq408
 . obtain ⟨B, hB⟩ := ins_exc (wakX X) (by rw [he]; omega)
   rw [e]
   rw [hB] at e'
   refine ⟨c, _, rfl, trp_core (Y := (wakX X).withB B) hX hX' rfl rfl rfl rfl 1 (.inl rfl) c (insX (wakX X)).1.2.2 X.c.minh X.c.medeleg (by omega) hX.ok.medeleg fx gx (fun q => absurd q (by decide)) (fun _ => fx.medeleg) ?_⟩
   rw [e']
   rfl
theorem at_ret' {X : XS} {I : Ins} (ha : AtF X I) (h : (insX (wakX X)).1.2.1 = -1) : (insX (wakX X)).1.1 = niOf I /\ ∃ v, (croX (wakX X) (niOf I) v).1.1 = -1 /\ (insX (wakX X)).2 = { (croX (wakX X) (niOf I) v).2 with pc := npcD (wakX X) (niOf I) } := by
 obtain ⟨a1, a2, a3⟩ := ha
 obtain ⟨_, _, r3, r4⟩ := ins_ret (wakX X) h
 have e1 : fetchD (wakX X).b (xC (wakX X)) (wakX X).pc = fetchD X.b (xC X) X.pc := rfl
 rw [e1, a2, a3] at r3 r4
 have e2 : (wakX X).withB X.b = wakX X := rfl
 rw [e2] at r3 r4
 rw [r4]
 exact ⟨rfl, _, r3, rfl⟩
theorem at_exc {X : XS} {I : Ins} (ha : AtF X I) (c : Nat) (h : (insX (wakX X)).1.2.1 = c) : ∃ v, (croX (wakX X) (niOf I) v).1.1 = c := by
 obtain ⟨a1, a2, a3⟩ := ha
 have e1 : fetchD (wakX X).b (xC (wakX X)) (wakX X).pc = fetchD X.b (xC X) X.pc := rfl
 have e2 : (wakX X).withB X.b = wakX X := rfl
 unfold insX at h
 rw [e1, if_pos a1, a2, a3, if_pos rfl, e2] at h
 unfold insR at h
 refine ⟨(fetchD X.b (xC X) X.pc).1.w, ?_⟩
 split at h
 . exact h
 . exact h
structure Ret (X' : XS) (f g : Fc) (op : Int) : Prop where
 rg : g.regs = f.regs
 m : op = 67 -> f.mode = 3 /\ g.mode = bits .and .i64 (f.status / 2048) 3 /\ g.pc = (((xcsrE X' 833).1 : Nat) : Int) /\ bits .and .i64 (g.status / 8) 1 = bits .and .i64 (f.status / 128) 1 /\ bits .and .i64 (g.status / 128) 1 = 1 /\ bits .and .i64 (g.status / 2048) 3 = 0 /\ bits .andNot .i64 (bits .xor .i64 g.status f.status) 137352 = 0 /\ (bits .and .i64 (f.status / 2048) 3 = 3 \/ bits .and .i64 (g.status / 131072) 1 = 0)
 s : op = 68 -> f.mode ≠ 0 /\ g.mode = bits .and .i64 (f.status / 256) 1 /\ g.pc = (((xcsrE X' 321).1 : Nat) : Int) /\ bits .and .i64 (g.status / 2) 1 = bits .and .i64 (f.status / 32) 1 /\ bits .and .i64 (g.status / 32) 1 = 1 /\ bits .and .i64 (g.status / 256) 1 = 0 /\ bits .andNot .i64 (bits .xor .i64 g.status f.status) 131362 = 0 /\ bits .and .i64 (g.status / 131072) 1 = 0 /\ (f.mode = 3 \/ bits .and .i64 (f.status / 4194304) 1 = 0)
theorem ret_of {X X' : XS} (hX : XInv X) (hX' : XInv X') {f g : Fc} (fx : FcX X f) (gx : FcX X' g) {I : Ins} (ho : I.op = 67 \/ I.op = 68) {v h : Nat} (hc : (croX (wakX X) (niOf I) v).1.1 = -1) (e : X' = cntX { (croX (wakX X) (niOf I) v).2 with pc := npcD (wakX X) (niOf I) } true h) : Ret X' f g I.op := by
 obtain ⟨_, _, _, q⟩ := cro_ops _ _ _ hc
 obtain ⟨q1, q2⟩ := q ho
 have hO := hX.ok
 have fm := fx.mode
 have fs : f.status = ((X.c.mstatus : Nat) : Int) := fx.status
 have gs : g.status = ((X'.c.mstatus : Nat) : Int) := gx.status
 have gl := hX'.ok.mstatus
 rw [q2] at e
 have om : (niOf I).op = I.op := rfl
 rw [om] at q1 e
 have md := hO.mode
 unfold mdoB at q1
 have w1 : (wakX X).mode = X.mode := rfl
 have w2 : (wakX X).c = X.c := rfl
 rw [w1, w2] at q1
 have ex : X'.x = X.x := by rw [e]; unfold prvX; rcases ho with o | o <;> rw [o] <;> rfl
 refine ⟨by rw [gx.regs, fx.regs, regs_of, regs_of, ex], fun o => ?_, fun o => ?_⟩
 . rw [o] at e q1
   have e1 : X'.mode = X.c.mstatus / 2048 % 4 /\ X'.c.mstatus = xmretD X.c.mstatus /\ X'.pc = npcD (wakX X) (niOf I) /\ X'.c.mepc = X.c.mepc := by rw [e]; exact ⟨rfl, rfl, rfl, rfl⟩
   obtain ⟨e2, e3, e4, e5⟩ := e1
   have hp : npcD (wakX X) (niOf I) = X.c.mepc := by
    unfold npcD
    rw [om, o, if_neg (by omega), if_neg (by decide), if_pos rfl]
    rfl
   have m3 : X.mode = 3 := by
    by_cases q3 : X.mode = 3
    . exact q3
    . rw [if_neg q3] at q1
      split at q1
      . simp at q1
      . cases q1
   have tb := fun i => mret_tb X.c.mstatus i
   rw [<- e3] at tb
   have ta := mretA_tb X.c.mstatus
   have f3 : bits .and .i64 (f.status / 2048) 3 = ((X.c.mstatus / 2048 % 4 : Nat) : Int) := and_3v (by rw [fs]; rfl) rfl (by have := hO.mstatus; omega)
   refine ⟨by omega, by rw [f3, gx.mode, e2], ?_, ?_, ?_, ?_, ?_, ?_⟩
   . rw [gx.pc, e4, hp]; show _ = ((X'.c.mepc : Nat) : Int); rw [e5]
   . rw [bitV 3 gl (by rw [gs]; rfl) rfl, bitV 7 hO.mstatus (by rw [fs]; rfl) rfl, tb, if_neg (by decide), if_neg (by decide), if_pos rfl, ta, if_neg (by omega)]
   . rw [bitV 7 gl (by rw [gs]; rfl) rfl, tb, if_pos rfl]; rfl
   . rw [and_3v (v := X'.c.mstatus / 2048) (by rw [gs]; rfl) rfl (by omega)]
     have : X'.c.mstatus / 2048 % 4 = 0 := by
      apply Nat.eq_of_testBit_eq
      intro i
      rw [show (4 : Nat) = 2 ^ 2 from rfl, show (2048 : Nat) = 2 ^ 11 from rfl, Nat.testBit_mod_two_pow, Nat.testBit_div_two_pow, tb, Nat.zero_testBit]
      by_cases hi : i < 2
      . rw [if_neg (by omega), if_pos (by omega), Bool.and_false]
      . simp [hi]
     rw [this]; rfl
   . refine xor0 gs fs (M := 137352) rfl gl hO.mstatus (by decide) (fun i hi hM => ?_)
     rw [tb]
     by_cases i7 : i = 7
     . subst i7; exact absurd hM (by decide)
     by_cases i11 : i = 11 \/ i = 12
     . rcases i11 with rfl | rfl <;> exact absurd hM (by decide)
     by_cases i3 : i = 3
     . subst i3; exact absurd hM (by decide)
     rw [if_neg i7, if_neg i11, if_neg i3, ta]
     by_cases i17 : i = 17
     . subst i17; exact absurd hM (by decide)
     rw [if_neg (fun q => i17 q.1)]
   . by_cases p3 : X.c.mstatus / 2048 % 4 = 3
     . left; rw [f3, p3]; rfl
     . right
       rw [bitV 17 gl (by rw [gs]; rfl) rfl, tb, if_neg (by decide), if_neg (by decide), if_neg (by decide), ta, if_pos ⟨rfl, p3⟩]; rfl
 . rw [o] at e q1
   have e1 : X'.mode = X.c.mstatus / 256 % 2 /\ X'.c.mstatus = xsretD X.c.mstatus /\ X'.pc = npcD (wakX X) (niOf I) /\ X'.c.sepc = X.c.sepc := by rw [e]; exact ⟨rfl, rfl, rfl, rfl⟩
   obtain ⟨e2, e3, e4, e5⟩ := e1
   have hp : npcD (wakX X) (niOf I) = X.c.sepc := by
    unfold npcD
    rw [om, o, if_neg (by omega), if_neg (by decide), if_neg (by decide), if_pos rfl]
    rfl
   have tb := fun i => sret_tb X.c.mstatus i
   rw [<- e3] at tb
   have hm : X.mode ≠ 0 /\ (X.mode = 3 \/ X.c.mstatus.testBit 22 = false) := by
    by_cases q3 : X.mode = 3
    . exact ⟨by omega, .inl q3⟩
    . rw [if_neg q3] at q1
      split at q1
      . next q4 =>
        refine ⟨by omega, .inr ?_⟩
        have q5 : (!bitN X.c.mstatus 22) = true := by simpa using q1
        rw [bitN_tb] at q5
        simpa using q5
      . cases q1
   refine ⟨by omega, ?_, ?_, ?_, ?_, ?_, ?_, ?_, ?_⟩
   . rw [bitV 8 hO.mstatus (by rw [fs]; rfl) rfl, gx.mode, e2, Nat.testBit_eq_decide_div_mod_eq]
     have : X.c.mstatus / 2 ^ 8 % 2 < 2 := Nat.mod_lt _ (by decide)
     by_cases q : X.c.mstatus / 2 ^ 8 % 2 = 1
     . rw [show X.c.mstatus / 256 % 2 = 1 from q]; simp [q]
     . have q0 : X.c.mstatus / 2 ^ 8 % 2 = 0 := by omega
       rw [show X.c.mstatus / 256 % 2 = 0 from q0]; simp [q0]
   . rw [gx.pc, e4, hp]; show _ = ((X'.c.sepc : Nat) : Int); rw [e5]
   . rw [bitV 1 gl (by rw [gs]; rfl) rfl, bitV 5 hO.mstatus (by rw [fs]; rfl) rfl, tb, if_neg (by decide), if_neg (by decide), if_pos rfl]
   . rw [bitV 5 gl (by rw [gs]; rfl) rfl, tb, if_pos rfl]; rfl
   . rw [bitV 8 gl (by rw [gs]; rfl) rfl, tb, if_neg (by decide), if_pos (.inl rfl)]; rfl
   . refine xor0 gs fs (M := 131362) rfl gl hO.mstatus (by decide) (fun i hi hM => ?_)
     rw [tb]
     by_cases i5 : i = 5
     . subst i5; exact absurd hM (by decide)
     by_cases i8 : i = 8 \/ i = 17
     . rcases i8 with rfl | rfl <;> exact absurd hM (by decide)
     by_cases i1 : i = 1
     . subst i1; exact absurd hM (by decide)
     rw [if_neg i5, if_neg i8, if_neg i1]
   . rw [bitV 17 gl (by rw [gs]; rfl) rfl, tb, if_neg (by decide), if_pos (.inr rfl)]; rfl
   . rcases hm.2 with q | q
     . left; omega
     . right; rw [bitV 22 hO.mstatus (by rw [fs]; rfl) rfl, q]; rfl
section
attribute [local go_sem ↓] Go.wp_at_zero Go.wp_at_succ
def Su (w0 : World) (fb gb : Nat) (f g : Fc) (mb rb : Nat) (X : XS) (w : World) : Prop := BoxF w fb f.l /\ BoxF w gb g.l /\ XAt w mb rb X /\ Kept [] w0 w
theorem Su.kept {w0 : World} {fb gb : Nat} {f g : Fc} {mb rb : Nat} {X : XS} {w w' : World} (h : Su w0 fb gb f g mb rb X w) (hk : Kept [] w w') : Su w0 fb gb f g mb rb X w' := ⟨h.1.kept hk, h.2.1.kept hk, h.2.2.1.kept hk, h.2.2.2.trans hk⟩
theorem Su.drewN {w0 : World} {fb gb : Nat} {f g : Fc} {mb rb : Nat} {X : XS} {w : World} (h : Su w0 fb gb f g mb rb X w) (n : Nat) : Su w0 fb gb f g mb rb X (w.drewN n) := h.kept ((Kept.refl [] w).drewN n)
theorem andE_big (v : Nat) (hv : v < 9223372036854775808) : bits .and .i64 (v : Int) 4294967295 = ((v % 4294967296 : Nat) : Int) := by
 have h1 : bits .and .i64 (v : Int) 4294967295 = ((v &&& 4294967295 : Nat) : Int) := b_and v 4294967295 hv (by decide)
 rw [h1, show v &&& 4294967295 = v % 4294967296 from Nat.and_two_pow_sub_one_eq_mod v 32]
def Sv (w0 : World) (fb gb : Nat) (f g : Fc) (mb rb : Nat) (X : XS) (db : Nat) (k c : Int) (w : World) : Prop := Su w0 fb gb f g mb rb X w /\ BoxF w db [.int .i64 k, .int .i64 c]
theorem Sv.kept {w0 : World} {fb gb : Nat} {f g : Fc} {mb rb : Nat} {X : XS} {db : Nat} {k c : Int} {w w' : World} (h : Sv w0 fb gb f g mb rb X db k c w) (hk : Kept [] w w') : Sv w0 fb gb f g mb rb X db k c w' := ⟨h.1.kept hk, h.2.kept hk⟩
theorem Sv.drewN {w0 : World} {fb gb : Nat} {f g : Fc} {mb rb : Nat} {X : XS} {db : Nat} {k c : Int} {w : World} (h : Sv w0 fb gb f g mb rb X db k c w) (n : Nat) : Sv w0 fb gb f g mb rb X db k c (w.drewN n) := h.kept ((Kept.refl [] w).drewN n)
theorem str_eq {a b : ByteArray} (h : a = b) : (a.toList == b.toList) = true := by subst h; simp
set_option maxRecDepth 100000 in
theorem k_trappedS (mb rb fb gb : Nat) (X : XS) (hX : XOk X) (f g : Fc) (k : Int) (c : Nat) (T : Trp X f g k c true) (w : World) (hs : Hid (Su w fb gb f g mb rb X w)) : CK 57 #[.pointer (some ⟨mb, 0, none⟩), .pointer (some ⟨fb, 0, none⟩), .pointer (some ⟨gb, 0, none⟩), .agg #[.int .i64 k, .int .i64 (c : Int)]] (.bool true) w := by
 obtain ⟨DG, hDG, d2, d1, ds⟩ := T.dg
 obtain ⟨V, hV, ev, epc⟩ := T.v
 have c32 := T.c32
 obtain ⟨CC, hCC⟩ := zn2 (c + (if k = 2 then 2147483648 else 0) : Nat)
 have eca := T.ca
 rw [hCC] at eca
 have C1 := hide1 (fun W (hW : Hid (XAt W mb rb X)) => k_csrV mb rb X hX 261 V ev W hW)
 have C2 := hide1 (fun W (hW : Hid (XAt W mb rb X)) => k_csrV mb rb X hX 322 CC eca W hW)
 obtain ⟨EP, hEP⟩ := zn2 ((xcsrE X 321).1 : Nat)
 have C3 := hide1 (fun W (hW : Hid (XAt W mb rb X)) => k_csrV mb rb X hX 321 EP hEP W hW)
 have ⟨p1, p1'⟩ := beqT (show ((EP : Nat) : Int) = f.pc by rw [<- hEP]; exact T.ep)
 obtain ⟨TG, hTG⟩ := zn2 ((if k = 2 /\ V % 2 = 1 then (wout V 3 + 4 * c) % 4294967296 else wout V 3) : Nat)
 rw [hTG] at epc
 have ⟨t1, t1'⟩ := beqT epc
 have E0 : bits .andNot .i64 (V : Int) 3 = ((wout V 3 : Nat) : Int) := b_andn V 3 (by omega) (by decide)
 have EV : bits .and .i64 (V : Int) 1 = ((V % 2 : Nat) : Int) := zq141
 have w3 : wout V 3 <= V := wout_le _ _
 obtain ⟨T0, hT0⟩ := zn2 (wout V 3 : Nat)
 rw [hT0] at E0 hTG w3
 have EM : bits .and .i64 ((T0 : Int) + 4 * (c : Int)) 4294967295 = (((T0 + 4 * c) % 4294967296 : Nat) : Int) := by
  rw [show (T0 : Int) + 4 * (c : Int) = ((T0 + 4 * c : Nat) : Int) by omega, andE_big _ (by omega)]
 have HM : Hid (∀ m : Nat, m = T0 + 4 * c -> bits .and .i64 ((T0 : Int) + 4 * (c : Int)) 4294967295 = ((m % 4294967296 : Nat) : Int)) := hide1 (fun m e => by rw [e]; exact EM)
 have lt' : decide (g.mode < f.mode) = false := by simp; exact Int.not_lt.1 T.lt
 have g1 := T.g1
 have g1' : (g.mode != 1) = !true := by rw [bne, g1]
 have rg := str_eq T.rg
 have rg2 := str_eq T.rg.symm
 have HK := hide1 T.hk
 have D2 := hide1 d2
 have D1 := hide1 d1
 have DS := hide1 ds
 have HC := hide1 hCC
 have HT := hide1 hTG
 have TS := hide1 (T.sS rfl)
 have w0' : T0 < 4294967296 := by omega
 clear T ev eca hEP epc hCC hTG d1 d2 ds EM hX hT0 hV w3
 obtain ⟨db, hdb⟩ := zn1 (w.heap.size)
 have s0 : Hid (Sv w fb gb f g mb rb X db k c (w.alloc (.cells #[.int .i64 k, .int .i64 (c : Int)] 45))) := zq142
 go_enter func57, ntmps57
 go_upto_region 1 with fail
 rw [<- hdb]
 clear hs
 obtain ⟨W, hW⟩ := zn1 (w.alloc (.cells #[.int .i64 k, .int .i64 (c : Int)] 45))
 rw [<- hW] at s0 |-
 clear hW hdb
 have f5 := s0.out.1.1.cell 5 _ rfl
 have f6 := s0.out.1.1.cell 6 _ rfl
 have d0 := s0.out.2.cell 0 _ rfl
 have d1 := s0.out.2.cell 1 _ rfl
 have fl := s0.out.1.1.lt
 have gl := s0.out.1.2.1.lt
 have dl := s0.out.2.lt
 go_upto_if 26 with fail
 go_cut [9, 10] (fun p0 p1 wx => (p0 = .int .i64 (DG : Int) /\ p1 = .int .i64 (CC : Int)) /\ wx = W)
 case first =>
  exact zq410
 case rest =>
 obtain ⟨⟨rfl, rfl⟩, hwx⟩ := hcut
 rw [hwx]
 clear hwx f5 f6 d0
 have HA := hide1 (k_hasT DG c c32 hDG W)
 go_upto_region 7 with ((go_at_call 105; refine HA.out.mono ?_; rintro o wq ⟨rfl, hwq⟩; rw [hwq]; clear hwq wq))
 clear HA
 have f0 := s0.out.1.1.cell 0 _ rfl
 obtain ⟨dn, hdn⟩ := zn2 (bitN DG c)
 rw [hdn] at DS |-
 clear hdn hDG
 go_cut [12] (fun p0 wx => p0 = .bool true /\ wx = W)
 case first =>
  exact zq411
 case rest =>
 obtain ⟨rfl, hwx⟩ := hcut
 rw [hwx]
 clear hwx d1
 have f14 := s0.out.1.1.cell 14 _ rfl
 have g0 := s0.out.1.2.1.cell 0 _ rfl
 have g14 := s0.out.1.2.1.cell 14 _ rfl
 go_upto_region 8 with fail
 go_cut [73] (fun p0 wx => p0 = .bool false /\ Hid (Sv w fb gb f g mb rb X db k c wx))
 case first =>
  exact zq412
 case rest =>
 obtain ⟨rfl, s4⟩ := hcut
 clear s0 f0 f14 g0 g14 fl gl dl lt' g1 g1' rg rg2
 go_upto_if 74 with fail
 go_cut [13] (fun p0 wx => p0 = .int .i64 261 /\ Hid (Sv w fb gb f g mb rb X db k c wx))
 case first =>
  exact zq413
 case rest =>
 obtain ⟨rfl, s5⟩ := hcut
 clear s4
 go_wp2_with fail
 refine (C1.out _ (hide1 s5.out.1.2.2.1)).mono ?_
 rintro o w6 ⟨rfl, hk⟩
 have s6 := hide1 (s5.out.kept hk)
 clear hk s5 C1
 have d0 := s6.out.2.cell 0 _ rfl
 have d1 := s6.out.2.cell 1 _ rfl
 have dl := s6.out.2.lt
 go_upto_region 15 with fail
 obtain ⟨bi, hbi⟩ := zn2 ((k == 2 && ((V % 2 : Nat) : Int) == 1))
 go_cut [87] (fun p0 wx => p0 = .bool bi /\ wx = w6)
 case first =>
  exact zq414
 case rest =>
 obtain ⟨rfl, hwx⟩ := hcut
 rw [hwx]
 clear hwx
 have HB : Hid (bi = true ↔ (k = 2 /\ V % 2 = 1)) := hide1 (by rw [<- hbi]; simp; omega)
 clear hbi EV
 go_upto_if 87 with fail
 go_cut [15] (fun p0 wx => p0 = .int .i64 (TG : Int) /\ wx = w6)
 case first =>
  exact zq415
 case rest =>
 obtain ⟨rfl, hwx⟩ := hcut
 rw [hwx]
 clear hwx d0 d1 dl E0 HB HT HM
 go_wp2_with fail
 refine (C2.out _ (hide1 s6.out.1.2.2.1)).mono ?_
 rintro o w9 ⟨rfl, hk⟩
 have s9 := hide1 (s6.out.kept hk)
 clear hk s6 C2
 go_wp2_with fail
 refine (C3.out _ (hide1 s9.out.1.2.2.1)).mono ?_
 rintro o w10 ⟨rfl, hk⟩
 have s10 := hide1 (s9.out.kept hk)
 clear hk s9 C3
 have f1 := s10.out.1.1.cell 1 _ rfl
 have g1 := s10.out.1.2.1.cell 1 _ rfl
 have fl := s10.out.1.1.lt
 have gl := s10.out.1.2.1.lt
 go_upto_region 19 with fail
 go_cut [122] (fun p0 wx => p0 = .bool false /\ wx = w10)
 case first =>
  exact zq416
 case rest =>
 obtain ⟨rfl, hwx⟩ := hcut
 rw [hwx]
 clear hwx f1 g1 p1 p1' t1 t1'
 have f0 := s10.out.1.1.cell 0 _ rfl
 have f2 := s10.out.1.1.cell 2 _ rfl
 have g2 := s10.out.1.2.1.cell 2 _ rfl
 have ⟨q1, q1'⟩ := beqT TS.out.1
 have ⟨q2, q2'⟩ := beqT TS.out.2.1
 have ⟨q3, q3'⟩ := beqT TS.out.2.2.1
 have ⟨q4, q4'⟩ := beqT TS.out.2.2.2
 clear TS
 go_upto_region 22 with fail
 exact zq409
set_option maxRecDepth 100000 in
theorem k_trappedM (mb rb fb gb : Nat) (X : XS) (hX : XOk X) (f g : Fc) (k : Int) (c : Nat) (T : Trp X f g k c false) (w : World) (hs : Hid (Su w fb gb f g mb rb X w)) : CK 57 #[.pointer (some ⟨mb, 0, none⟩), .pointer (some ⟨fb, 0, none⟩), .pointer (some ⟨gb, 0, none⟩), .agg #[.int .i64 k, .int .i64 (c : Int)]] (.bool true) w := by
 obtain ⟨DG, hDG, d2, d1, ds⟩ := T.dg
 obtain ⟨V, hV, ev, epc⟩ := T.v
 have c32 := T.c32
 obtain ⟨CC, hCC⟩ := zn2 (c + (if k = 2 then 2147483648 else 0) : Nat)
 have eca := T.ca
 rw [hCC] at eca
 have C1 := hide1 (fun W (hW : Hid (XAt W mb rb X)) => k_csrV mb rb X hX 773 V ev W hW)
 have C2 := hide1 (fun W (hW : Hid (XAt W mb rb X)) => k_csrV mb rb X hX 834 CC eca W hW)
 obtain ⟨EP, hEP⟩ := zn2 ((xcsrE X 833).1 : Nat)
 have C3 := hide1 (fun W (hW : Hid (XAt W mb rb X)) => k_csrV mb rb X hX 833 EP hEP W hW)
 have ⟨p1, p1'⟩ := beqT (show ((EP : Nat) : Int) = f.pc by rw [<- hEP]; exact T.ep)
 obtain ⟨TG, hTG⟩ := zn2 ((if k = 2 /\ V % 2 = 1 then (wout V 3 + 4 * c) % 4294967296 else wout V 3) : Nat)
 rw [hTG] at epc
 have ⟨t1, t1'⟩ := beqT epc
 have E0 : bits .andNot .i64 (V : Int) 3 = ((wout V 3 : Nat) : Int) := b_andn V 3 (by omega) (by decide)
 have EV : bits .and .i64 (V : Int) 1 = ((V % 2 : Nat) : Int) := zq141
 have w3 : wout V 3 <= V := wout_le _ _
 obtain ⟨T0, hT0⟩ := zn2 (wout V 3 : Nat)
 rw [hT0] at E0 hTG w3
 have EM : bits .and .i64 ((T0 : Int) + 4 * (c : Int)) 4294967295 = (((T0 + 4 * c) % 4294967296 : Nat) : Int) := by
  rw [show (T0 : Int) + 4 * (c : Int) = ((T0 + 4 * c : Nat) : Int) by omega, andE_big _ (by omega)]
 have HM : Hid (∀ m : Nat, m = T0 + 4 * c -> bits .and .i64 ((T0 : Int) + 4 * (c : Int)) 4294967295 = ((m % 4294967296 : Nat) : Int)) := hide1 (fun m e => by rw [e]; exact EM)
 have lt' : decide (g.mode < f.mode) = false := by simp; exact Int.not_lt.1 T.lt
 have g1 := T.g1
 have g1' : (g.mode != 1) = !false := by rw [bne, g1]
 have rg := str_eq T.rg
 have rg2 := str_eq T.rg.symm
 have HK := hide1 T.hk
 have D2 := hide1 d2
 have D1 := hide1 d1
 have DS := hide1 ds
 have HC := hide1 hCC
 have HT := hide1 hTG
 have TS := hide1 (T.sM rfl)
 have w0' : T0 < 4294967296 := by omega
 clear T ev eca hEP epc hCC hTG d1 d2 ds EM hX hT0 hV w3
 obtain ⟨db, hdb⟩ := zn1 (w.heap.size)
 have s0 : Hid (Sv w fb gb f g mb rb X db k c (w.alloc (.cells #[.int .i64 k, .int .i64 (c : Int)] 45))) := zq142
 go_enter func57, ntmps57
 go_upto_region 1 with fail
 rw [<- hdb]
 clear hs
 obtain ⟨W, hW⟩ := zn1 (w.alloc (.cells #[.int .i64 k, .int .i64 (c : Int)] 45))
 rw [<- hW] at s0 |-
 clear hW hdb
 have f5 := s0.out.1.1.cell 5 _ rfl
 have f6 := s0.out.1.1.cell 6 _ rfl
 have d0 := s0.out.2.cell 0 _ rfl
 have d1 := s0.out.2.cell 1 _ rfl
 have fl := s0.out.1.1.lt
 have gl := s0.out.1.2.1.lt
 have dl := s0.out.2.lt
 go_upto_if 26 with fail
 go_cut [9, 10] (fun p0 p1 wx => (p0 = .int .i64 (DG : Int) /\ p1 = .int .i64 (CC : Int)) /\ wx = W)
 case first =>
  exact zq410
 case rest =>
 obtain ⟨⟨rfl, rfl⟩, hwx⟩ := hcut
 rw [hwx]
 clear hwx f5 f6 d0
 have HA := hide1 (k_hasT DG c c32 hDG W)
 go_upto_region 7 with ((go_at_call 105; refine HA.out.mono ?_; rintro o wq ⟨rfl, hwq⟩; rw [hwq]; clear hwq wq))
 clear HA
 have f0 := s0.out.1.1.cell 0 _ rfl
 obtain ⟨dn, hdn⟩ := zn2 (bitN DG c)
 rw [hdn] at DS |-
 clear hdn hDG
 go_cut [12] (fun p0 wx => p0 = .bool false /\ wx = W)
 case first =>
  exact zq411
 case rest =>
 obtain ⟨rfl, hwx⟩ := hcut
 rw [hwx]
 clear hwx d1
 have f14 := s0.out.1.1.cell 14 _ rfl
 have g0 := s0.out.1.2.1.cell 0 _ rfl
 have g14 := s0.out.1.2.1.cell 14 _ rfl
 go_upto_region 8 with fail
 go_cut [73] (fun p0 wx => p0 = .bool false /\ Hid (Sv w fb gb f g mb rb X db k c wx))
 case first =>
  exact zq412
 case rest =>
 obtain ⟨rfl, s4⟩ := hcut
 clear s0 f0 f14 g0 g14 fl gl dl lt' g1 g1' rg rg2
 go_upto_if 74 with fail
 go_cut [13] (fun p0 wx => p0 = .int .i64 773 /\ Hid (Sv w fb gb f g mb rb X db k c wx))
 case first =>
  exact zq413
 case rest =>
 obtain ⟨rfl, s5⟩ := hcut
 clear s4
 go_wp2_with fail
 refine (C1.out _ (hide1 s5.out.1.2.2.1)).mono ?_
 rintro o w6 ⟨rfl, hk⟩
 have s6 := hide1 (s5.out.kept hk)
 clear hk s5 C1
 have d0 := s6.out.2.cell 0 _ rfl
 have d1 := s6.out.2.cell 1 _ rfl
 have dl := s6.out.2.lt
 go_upto_region 15 with fail
 obtain ⟨bi, hbi⟩ := zn2 ((k == 2 && ((V % 2 : Nat) : Int) == 1))
 go_cut [87] (fun p0 wx => p0 = .bool bi /\ wx = w6)
 case first =>
  exact zq414
 case rest =>
 obtain ⟨rfl, hwx⟩ := hcut
 rw [hwx]
 clear hwx
 have HB : Hid (bi = true ↔ (k = 2 /\ V % 2 = 1)) := hide1 (by rw [<- hbi]; simp; omega)
 clear hbi EV
 go_upto_if 87 with fail
 go_cut [15] (fun p0 wx => p0 = .int .i64 (TG : Int) /\ wx = w6)
 case first =>
  exact zq415
 case rest =>
 obtain ⟨rfl, hwx⟩ := hcut
 rw [hwx]
 clear hwx d0 d1 dl E0 HB HT HM
 go_wp2_with fail
 refine (C2.out _ (hide1 s6.out.1.2.2.1)).mono ?_
 rintro o w9 ⟨rfl, hk⟩
 have s9 := hide1 (s6.out.kept hk)
 clear hk s6 C2
 go_wp2_with fail
 refine (C3.out _ (hide1 s9.out.1.2.2.1)).mono ?_
 rintro o w10 ⟨rfl, hk⟩
 have s10 := hide1 (s9.out.kept hk)
 clear hk s9 C3
 have f1 := s10.out.1.1.cell 1 _ rfl
 have g1 := s10.out.1.2.1.cell 1 _ rfl
 have fl := s10.out.1.1.lt
 have gl := s10.out.1.2.1.lt
 go_upto_region 19 with fail
 go_cut [122] (fun p0 wx => p0 = .bool false /\ wx = w10)
 case first =>
  exact zq416
 case rest =>
 obtain ⟨rfl, hwx⟩ := hcut
 rw [hwx]
 clear hwx f1 g1 p1 p1' t1 t1'
 have f0 := s10.out.1.1.cell 0 _ rfl
 have f2 := s10.out.1.1.cell 2 _ rfl
 have g2 := s10.out.1.2.1.cell 2 _ rfl
 have ⟨q1, q1'⟩ := beqT TS.out.1
 have ⟨q2, q2'⟩ := beqT TS.out.2.1
 have ⟨q3, q3'⟩ := beqT TS.out.2.2.1
 have ⟨q4, q4'⟩ := beqT TS.out.2.2.2
 clear TS
 go_upto_region 23 with fail
 exact zq409
theorem k_trappedT (mb rb fb gb : Nat) (X : XS) (hX : XOk X) (f g : Fc) (k : Int) (c : Nat) (s : Bool) (T : Trp X f g k c s) (w : World) (hs : Hid (Su w fb gb f g mb rb X w)) : CK 57 #[.pointer (some ⟨mb, 0, none⟩), .pointer (some ⟨fb, 0, none⟩), .pointer (some ⟨gb, 0, none⟩), .agg #[.int .i64 k, .int .i64 (c : Int)]] (.bool true) w := by
 cases s
 . exact k_trappedM mb rb fb gb X hX f g k c T w hs
 . exact k_trappedS mb rb fb gb X hX f g k c T w hs
set_option maxRecDepth 100000 in
theorem k_returnedMT (mb rb fb gb : Nat) (X : XS) (hX : XOk X) (f g : Fc) (R : Ret X f g 67) (w : World) (hs : Hid (Su w fb gb f g mb rb X w)) : CK 59 #[.pointer (some ⟨mb, 0, none⟩), .pointer (some ⟨fb, 0, none⟩), .pointer (some ⟨gb, 0, none⟩), .int .i64 67] (.bool true) w := by
 obtain ⟨EP, hEP⟩ := zn2 ((xcsrE X 833).1 : Nat)
 have C1 := hide1 (fun W (hW : Hid (XAt W mb rb X)) => k_csrV mb rb X hX 833 EP hEP W hW)
 have rg := str_eq R.rg
 have rg2 := str_eq R.rg.symm
 obtain ⟨h1, h2, h3, h4, h5, h6, h7, h8⟩ := R.m rfl
 rw [hEP] at h3
 have ⟨a1, a1'⟩ := beqT h1
 have ⟨a2, a2'⟩ := beqT h2
 have ⟨a3, a3'⟩ := beqT h3
 have ⟨a4, a4'⟩ := beqT h4
 have ⟨a5, a5'⟩ := beqT h5
 have ⟨a6, a6'⟩ := beqT h6
 have ⟨a7, a7'⟩ := beqT h7
 have H8 := hide1 h8
 clear h1 h2 h3 h4 h5 h6 h7 h8 R hEP hX
 go_enter func59, ntmps59
 have f14 := hs.out.1.cell 14 _ rfl
 have g14 := hs.out.2.1.cell 14 _ rfl
 have fl := hs.out.1.lt
 have gl := hs.out.2.1.lt
 go_upto_region 1 with fail
 go_cut [20] (fun q wx => q = .bool false /\ Hid (Su w fb gb f g mb rb X wx))
 case first =>
  exact zq418
 case rest =>
 obtain ⟨rfl, s1⟩ := hcut
 clear hs f14 g14 fl gl rg rg2
 go_wp2_with fail
 refine (C1.out _ (hide1 s1.out.2.2.1)).mono ?_
 rintro o w2 ⟨rfl, hk⟩
 have s2 := hide1 (s1.out.kept hk)
 clear hk s1 C1
 have f0 := s2.out.1.cell 0 _ rfl
 have f2 := s2.out.1.cell 2 _ rfl
 have g0 := s2.out.2.1.cell 0 _ rfl
 have g1 := s2.out.2.1.cell 1 _ rfl
 have g2 := s2.out.2.1.cell 2 _ rfl
 have fl := s2.out.1.lt
 have gl := s2.out.2.1.lt
 go_upto_region 6 with fail
 go_cut [84] (fun q wx => q = .bool false /\ Hid (Su w fb gb f g mb rb X wx))
 case first =>
  exact zq419
 case rest =>
 obtain ⟨rfl, s3⟩ := hcut
 clear s2 f0 f2 g0 g1 g2 fl gl a1 a1' a2 a2' a3 a3' a4 a4' a5 a5' a6 a6'
 have f0 := s3.out.1.cell 0 _ rfl
 have f2 := s3.out.1.cell 2 _ rfl
 have g2 := s3.out.2.1.cell 2 _ rfl
 have fl := s3.out.1.lt
 have gl := s3.out.2.1.lt
 go_upto_region 8 with fail
 rcases beqC (bits .and .i64 (f.status / 2048) 3) 3 with ⟨qa, qb⟩ | ⟨qa, qb⟩
 . exact zq420
 exact zq417
set_option maxRecDepth 100000 in
theorem k_returnedST (mb rb fb gb : Nat) (X : XS) (hX : XOk X) (f g : Fc) (R : Ret X f g 68) (w : World) (hs : Hid (Su w fb gb f g mb rb X w)) : CK 59 #[.pointer (some ⟨mb, 0, none⟩), .pointer (some ⟨fb, 0, none⟩), .pointer (some ⟨gb, 0, none⟩), .int .i64 68] (.bool true) w := by
 obtain ⟨EP, hEP⟩ := zn2 ((xcsrE X 321).1 : Nat)
 have C1 := hide1 (fun W (hW : Hid (XAt W mb rb X)) => k_csrV mb rb X hX 321 EP hEP W hW)
 have rg := str_eq R.rg
 have rg2 := str_eq R.rg.symm
 obtain ⟨h1, h2, h3, h4, h5, h6, h7, h9, h8⟩ := R.s rfl
 rw [hEP] at h3
 have ⟨a1, a1'⟩ := beqF h1
 have ⟨a9, a9'⟩ := beqT h9
 have ⟨a2, a2'⟩ := beqT h2
 have ⟨a3, a3'⟩ := beqT h3
 have ⟨a4, a4'⟩ := beqT h4
 have ⟨a5, a5'⟩ := beqT h5
 have ⟨a6, a6'⟩ := beqT h6
 have ⟨a7, a7'⟩ := beqT h7
 have H8 := hide1 h8
 clear h1 h2 h3 h4 h5 h6 h7 h8 R hEP hX h9
 go_enter func59, ntmps59
 have f14 := hs.out.1.cell 14 _ rfl
 have g14 := hs.out.2.1.cell 14 _ rfl
 have fl := hs.out.1.lt
 have gl := hs.out.2.1.lt
 go_upto_region 1 with fail
 go_cut [20] (fun q wx => q = .bool false /\ Hid (Su w fb gb f g mb rb X wx))
 case first =>
  exact zq418
 case rest =>
 obtain ⟨rfl, s1⟩ := hcut
 clear hs f14 g14 fl gl rg rg2
 go_wp2_with fail
 refine (C1.out _ (hide1 s1.out.2.2.1)).mono ?_
 rintro o w2 ⟨rfl, hk⟩
 have s2 := hide1 (s1.out.kept hk)
 clear hk s1 C1
 have f0 := s2.out.1.cell 0 _ rfl
 have f2 := s2.out.1.cell 2 _ rfl
 have g0 := s2.out.2.1.cell 0 _ rfl
 have g1 := s2.out.2.1.cell 1 _ rfl
 have g2 := s2.out.2.1.cell 2 _ rfl
 have fl := s2.out.1.lt
 have gl := s2.out.2.1.lt
 go_upto_region 10 with fail
 go_cut [169] (fun q wx => q = .bool false /\ Hid (Su w fb gb f g mb rb X wx))
 case first =>
  exact zq419
 case rest =>
 obtain ⟨rfl, s3⟩ := hcut
 clear s2 f0 f2 g0 g1 g2 fl gl a1 a1' a2 a2' a3 a3' a4 a4' a5 a5' a6 a6'
 have f0 := s3.out.1.cell 0 _ rfl
 have f2 := s3.out.1.cell 2 _ rfl
 have g2 := s3.out.2.1.cell 2 _ rfl
 have fl := s3.out.1.lt
 have gl := s3.out.2.1.lt
 go_upto_region 12 with fail
 rcases beqC f.mode 3 with ⟨qa, qb⟩ | ⟨qa, qb⟩
 . exact zq420
 exact zq417
theorem k_returnedT (mb rb fb gb : Nat) (X : XS) (hX : XOk X) (f g : Fc) (op : Int) (ho : op = 67 \/ op = 68) (R : Ret X f g op) (w : World) (hs : Hid (Su w fb gb f g mb rb X w)) : CK 59 #[.pointer (some ⟨mb, 0, none⟩), .pointer (some ⟨fb, 0, none⟩), .pointer (some ⟨gb, 0, none⟩), .int .i64 op] (.bool true) w := by
 rcases ho with rfl | rfl
 . exact k_returnedMT mb rb fb gb X hX f g R w hs
 . exact k_returnedST mb rb fb gb X hX f g R w hs
end
theorem andM (a : Int) : bits .and .i64 a 4294967295 = a % 4294967296 := by
 have h : bits .and .i64 a 4294967295 = (((a % 18446744073709551616).toNat &&& 4294967295 : Nat) : Int) := and_any a 4294967295 (by decide)
 rw [h, show (a % 18446744073709551616).toNat &&& 4294967295 = (a % 18446744073709551616).toNat % 4294967296 from Nat.and_two_pow_sub_one_eq_mod _ 32]
 omega
def Cnt (f g : Fc) (k op : Int) : Prop := (k = 0 /\ 61 <= op /\ op <= 66) \/ (bits .and .i64 (g.cycle - f.cycle) 4294967295 = 1 - bits .and .i64 f.inhibit 1 /\ (k ≠ 0 -> bits .and .i64 (g.ret - f.ret) 4294967295 = 0) /\ (k = 0 -> bits .and .i64 (g.ret - f.ret) 4294967295 = 1 - bits .and .i64 (f.inhibit / 4) 1))
theorem cro_cnt (X : XS) (i : NI) (v : Nat) (h : ¬ (61 <= i.op /\ i.op <= 66)) : (croX X i v).2.c.cyc = X.c.cyc /\ (croX X i v).2.c.ret = X.c.ret := by
 have hs : ∀ (Y : XS) d v, (setXR Y d v).c = Y.c := by intro Y d v; unfold setXR; split <;> rfl
 unfold croX
 split
 . rw [hs]; exact ⟨rfl, rfl⟩
 split
 . exact ⟨rfl, rfl⟩
 split
 . unfold ldX ldF; split
   . rw [hs]; exact ⟨rfl, rfl⟩
   . exact ⟨rfl, rfl⟩
 split
 . unfold stX stF; split <;> exact ⟨rfl, rfl⟩
 split
 . unfold atX atF
   split
   . split
     . unfold atG lrX scX amoX
       dsimp only
       split
       . show (setXR _ _ _).c.cyc = _ /\ (setXR _ _ _).c.ret = _
         rw [hs]; exact ⟨rfl, rfl⟩
       . split
         . show (setXR _ _ _).c.cyc = _ /\ (setXR _ _ _).c.ret = _
           rw [hs]
           cases scB (X.withB (wordAtD X.b (xC X) (X.x.getD i.rs1 0) (kD i.op)).2) (wordAtD X.b (xC X) (X.x.getD i.rs1 0) (kD i.op)).1.1 <;> exact ⟨rfl, rfl⟩
         . rw [hs]; exact ⟨rfl, rfl⟩
     . exact ⟨rfl, rfl⟩
   . exact ⟨rfl, rfl⟩
 split
 . exact ⟨rfl, rfl⟩
 split
 . exact ⟨rfl, rfl⟩
 split
 . next q => exact absurd q.1 h
 split
 . unfold prvX
   repeat' split
   all_goals exact ⟨rfl, rfl⟩
 . exact ⟨rfl, rfl⟩
theorem cnt_core {X Y X' : XS} (hX : XInv X) {f g : Fc} (fx : FcX X f) (gx : FcX X' g) (r : Bool) (k op : Int) (hr : r = true ↔ k = 0) (e1 : Y.c.cyc = X.c.cyc) (e2 : Y.c.ret = X.c.ret) (e : X' = cntX Y r X.c.minh) : Cnt f g k op := by
 have c1 : f.cycle = ((X.c.cyc : Nat) : Int) := fx.cycle
 have c2 : f.ret = ((X.c.ret : Nat) : Int) := fx.ret
 have c3 : f.inhibit = ((X.c.minh : Nat) : Int) := fx.inhibit
 have d1 : g.cycle = ((X'.c.cyc : Nat) : Int) := gx.cycle
 have d2 : g.ret = ((X'.c.ret : Nat) : Int) := gx.ret
 have hO := hX.ok
 have h1 := hO.cyc
 have h2 := hO.ret
 have h3 := hO.minh
 have f1 : X'.c.cyc = if (!bitN X.c.minh 0) = true then incL X.c.cyc 1 else X.c.cyc := by rw [e, <- e1]; rfl
 have f2 : X'.c.ret = if (r && !bitN X.c.minh 2) = true then incL X.c.ret 1 else X.c.ret := by rw [e, <- e2]; rfl
 have b0 : bits .and .i64 f.inhibit 1 = ((X.c.minh.testBit 0).toNat : Nat) := bitV 0 (by omega) (by rw [c3]; simp) rfl
 have b2 : bits .and .i64 (f.inhibit / 4) 1 = ((X.c.minh.testBit 2).toNat : Nat) := bitV 2 (by omega) (by rw [c3]; rfl) rfl
 have inc : ∀ a : Nat, a < 4294967296 -> (((incL a 1 : Nat) : Int) - a) % 4294967296 = 1 := by intro a ha; unfold incL; omega
 have i0 : ∀ a : Nat, ((a : Int) - a) % 4294967296 = 0 := by intro a; omega
 right
 rw [andM, andM, b0, b2, c1, c2, d1, d2, f1, f2, bitN_tb, bitN_tb]
 refine ⟨?_, fun hk => ?_, fun hk => ?_⟩
 . cases X.c.minh.testBit 0
   . rw [if_pos (by decide), inc _ h1]; rfl
   . rw [if_neg (by decide), i0]; rfl
 . have : r = false := by cases r with | false => rfl | true => exact absurd (hr.1 rfl) hk
   rw [this, if_neg (by simp), i0]
 . have : r = true := hr.2 hk
   rw [this]
   cases X.c.minh.testBit 2
   . rw [if_pos (by decide), inc _ h2]; rfl
   . rw [if_neg (by decide), i0]; rfl
theorem cnt_of {X : XS} (hX : XInv X) {f g : Fc} (fx : FcX X f) (gx : FcX (stepX X).2 g) (op : Int) (ho : op = 61 \/ ∃ I, AtF X I /\ op = I.op) : Cnt f g (stepX X).1.1 op := by
 have ti : ∀ (Y : XS) n t, (tsX Y n t).c.cyc = Y.c.cyc /\ (tsX Y n t).c.ret = Y.c.ret /\ (tmX Y n t).c.cyc = Y.c.cyc /\ (tmX Y n t).c.ret = Y.c.ret := fun Y n t => ⟨rfl, rfl, rfl, rfl⟩
 rcases step_is hX with ⟨e, _, e'⟩ | ⟨c, hc, e, e'⟩ | ⟨_, hr, e, e'⟩ | ⟨_, c, hc, he, e, e'⟩
 . rw [e]; exact cnt_core (Y := X) hX fx gx false 3 op (by decide) rfl rfl e'
 . rw [e]
   refine cnt_core (Y := tiX (wakX X) c) hX fx gx false 2 op (by decide) ?_ ?_ e'
   . unfold tiX; split
     . exact (ti _ _ _).1
     . exact (ti _ _ _).2.2.1
   . unfold tiX; split
     . exact (ti _ _ _).2.1
     . exact (ti _ _ _).2.2.2
 . rw [e]
   rcases ho with rfl | ⟨I, ha, rfl⟩
   . left; exact ⟨rfl, by omega, by omega⟩
   . by_cases hcs : 61 <= I.op /\ I.op <= 66
     . left; exact ⟨rfl, hcs.1, hcs.2⟩
     . obtain ⟨r1, v, r2, r3⟩ := at_ret' ha hr
       have cw : cwrD (niOf I) = 0 := by
        unfold cwrD
        rw [if_neg (fun q => hcs ⟨q.1, q.2.1⟩)]
       rw [r1, cw, or_z] at e'
       have := cro_cnt (wakX X) (niOf I) v hcs
       refine cnt_core (Y := (insX (wakX X)).2) hX fx gx true 0 I.op (by decide) ?_ ?_ e'
       . rw [r3]; exact this.1
       . rw [r3]; exact this.2
 . rw [e]
   obtain ⟨B, hB⟩ := ins_exc (wakX X) (by rw [he]; omega)
   refine cnt_core (Y := teX (insX (wakX X)).2 c (insX (wakX X)).1.2.2) hX fx gx false 1 op (by decide) ?_ ?_ e'
   . rw [hB]; unfold teX; split
     . exact (ti _ _ _).1
     . exact (ti _ _ _).2.2.1
   . rw [hB]; unfold teX; split
     . exact (ti _ _ _).2.1
     . exact (ti _ _ _).2.2.2
def Sns (f : Fc) (op : Int) (c : Nat) : Prop := (c = 2 /\ (op = 0 \/ 61 <= op)) \/ (c = 3 /\ op = 41) \/ ((c : Int) = 8 + f.mode /\ op = 40 /\ (c = 8 \/ c = 9 \/ c = 11)) \/ (c = 4 /\ op = 50) \/ (c = 6 /\ 51 <= op /\ op <= 60) \/ ((c = 5 \/ c = 13) /\ ((11 <= op /\ op <= 15) \/ op = 50)) \/ ((c = 7 \/ c = 15) /\ ((16 <= op /\ op <= 18) \/ (51 <= op /\ op <= 60)))
theorem sns_of {X : XS} (hX : XInv X) {f : Fc} (fx : FcX X f) {I : Ins} (ha : AtF X I) (c : Nat) (h : (stepX X).1 = (1, (c : Int))) : Sns f I.op c := by
 have m := hX.ok.mode
 have fm := fx.mode
 have h70 : 0 <= I.op /\ I.op <= 70 := by
  by_cases q : I.op = 0
  . omega
  . have := decode_op (fetchD X.b (xC X) X.pc).1.w
    rw [ha.2.2] at this
    have := (this q).1
    have q1 : 1 <= I.op := this.1
    exact ⟨by omega, this.2.1⟩
 rcases step_is hX with ⟨e, _, _⟩ | ⟨c', _, e, _⟩ | ⟨_, _, e, _⟩ | ⟨_, c', _, he, e, _⟩
 . exact zq421
 . exact zq421
 . exact zq421
 . have hc : c' = c := by rw [e] at h; have := congrArg Prod.snd h; dsimp only at this; omega
   rw [hc] at he
   obtain ⟨v, hv⟩ := at_exc ha c he
   have q := cro_causes _ _ _ c hv
   have w1 : (wakX X).mode = X.mode := rfl
   have om : (niOf I).op = I.op := rfl
   rw [w1, om] at q
   rcases q with q | q | q | q | q | q | q
   . exact .inl ⟨q.1, by have := h70; omega⟩
   . exact .inr (.inl q)
   . exact .inr (.inr (.inl ⟨by omega, q.2, by omega⟩))
   . exact .inr (.inr (.inr (.inl q)))
   . exact .inr (.inr (.inr (.inr (.inl q))))
   . exact .inr (.inr (.inr (.inr (.inr (.inl q)))))
   . exact .inr (.inr (.inr (.inr (.inr (.inr q)))))
theorem run_of {X : XS} (hX : XInv X) {f g : Fc} (fx : FcX X f) (gx : FcX (stepX X).2 g) {I : Ins} (ha : AtF X I) (h : (stepX X).1.1 = 0) : I.op ≠ 0 /\ I.op ≠ 40 /\ I.op ≠ 41 /\ (I.op = 67 \/ I.op = 68 -> Ret (stepX X).2 f g I.op) /\ (¬ (I.op = 67 \/ I.op = 68) -> g.mode = f.mode) := by
 rcases step_is hX with ⟨e, _, _⟩ | ⟨c', _, e, _⟩ | ⟨_, hr, e, e'⟩ | ⟨_, c', _, _, e, _⟩
 . exact zq408
 . exact zq422
 . obtain ⟨r1, v, r2, r3⟩ := at_ret' ha hr
   obtain ⟨o1, o2, o3, _⟩ := cro_ops _ _ _ r2
   refine ⟨o1, o2, o3, fun ho => ?_, fun ho => ?_⟩
   . rw [r3] at e'
     exact ret_of hX (step_inv hX) fx gx ho r2 e'
   . rw [gx.mode, fx.mode, e', r3]
     have := cro_mode (wakX X) (niOf I) v (fun q => ho (.inl q)) (fun q => ho (.inr q))
     show (((croX (wakX X) (niOf I) v).2.mode : Nat) : Int) = _
     rw [this]; rfl
 . exact zq422
theorem ram_of {X : XS} (hX : XInv X) {f g : Fc} (fx : FcX X f) (gx : FcX (stepX X).2 g) (h : (stepX X).1.1 = 2 \/ (stepX X).1.1 = 3) : f.ram = g.ram := by
 rw [fx.ram, gx.ram]
 rcases step_is hX with ⟨e, _, e'⟩ | ⟨c', _, e, e'⟩ | ⟨_, _, e, _⟩ | ⟨_, c', _, _, e, _⟩
 . rw [e']; rfl
 . rw [e']
   have : (tiX (wakX X) c').b = X.b := by unfold tiX; split <;> rfl
   show _ = pkB (tiX (wakX X) c').b.ram 0 (tiX (wakX X) c').b.ram.length
   rw [this]
 . exact zq408
 . exact zq422
section
attribute [local go_sem ↓] Go.wp_at_zero Go.wp_at_succ
set_option maxRecDepth 100000 in
theorem k_countedT (gb : Nat) (g : Fc) (k : Int) (c : Int) (op : Int) (fb : Nat) (f : Fc) (z1 z2 : Nat) (hf1 : FcOk f z1) (hg1 : FcOk g z2) (H : Cnt f g k op) (w : World) (hf : Hid (BoxF w fb f.l)) (hg : Hid (BoxF w gb g.l)) : CK 56 #[.pointer (some ⟨fb, 0, none⟩), .pointer (some ⟨gb, 0, none⟩), .agg #[.int .i64 k, .int .i64 c], .int .i64 op] (.bool true) w := by
 have c8 := hf.out.cell 8 _ rfl
 have c9 := hf.out.cell 9 _ rfl
 have c11 := hf.out.cell 11 _ rfl
 have cl := hf.out.lt
 have d9 := hg.out.cell 9 _ rfl
 have d11 := hg.out.cell 11 _ rfl
 have dl := hg.out.lt
 have e1 : ¬ fb = w.heap.size := by omega
 have e2 : ¬ gb = w.heap.size := by omega
 have y1 := hf1.cycle
 have y2 := hf1.ret
 have y3 := hg1.cycle
 have y4 := hg1.ret
 have wc : IntKind.i64.wrap (g.cycle - f.cycle) = g.cycle - f.cycle := zq115
 have wr : IntKind.i64.wrap (g.ret - f.ret) = g.ret - f.ret := zq115
 clear hf1 hg1 y1 y2 y3 y4
 by_cases hcs : k = 0 /\ 61 <= op /\ op <= 66
 . have q0 : (k == 0) = true := by simp [hcs.1]
   have q1 : decide (61 <= op) = true := by simp; exact hcs.2.1
   have q2 : decide (op <= 66) = true := by simp; exact hcs.2.2
   clear H hcs
   go_enter func56, ntmps56
   exact zq245
 obtain ⟨H1, H2, H3⟩ := H.resolve_left hcs
 obtain ⟨I0, hI0, b0⟩ : ∃ I : Nat, I <= 1 /\ bits .and .i64 f.inhibit 1 = (I : Int) := ⟨_, Nat.and_le_right, and_any f.inhibit 1 (by decide)⟩
 obtain ⟨I2, hI2, b2⟩ : ∃ I : Nat, I <= 1 /\ bits .and .i64 (f.inhibit / 4) 1 = (I : Int) := ⟨_, Nat.and_le_right, and_any (f.inhibit / 4) 1 (by decide)⟩
 rw [b0] at H1
 rw [b2] at H3
 have w0 : IntKind.i64.wrap (1 - (I0 : Int)) = 1 - (I0 : Int) := zq115
 have w2 : IntKind.i64.wrap (1 - (I2 : Int)) = 1 - (I2 : Int) := zq115
 have ⟨t1, t1'⟩ := beqT H1
 by_cases hk : k = 0
 . have ⟨k0, k0'⟩ := beqT hk
   have ⟨t2, t2'⟩ := beqT (H3 hk)
   clear H1 H2 H3 H
   by_cases h61 : 61 <= op
   . have q1 : decide (61 <= op) = true := by simp; exact h61
     have q2 : decide (op <= 66) = false := by simp; omega
     exact zq423
   . have q1 : decide (61 <= op) = false := by simp; omega
     exact zq423
 . have ⟨k0, k0'⟩ := beqF hk
   have ⟨t2, t2'⟩ := beqT (H2 hk)
   clear H1 H2 H3 H hcs hk
   exact zq424
set_option maxRecDepth 100000 in
theorem k_sensibleT (x0 x1 x2 x3 x4 x5 : Int) (c : Nat) (fb : Nat) (f : Fc) (H : Sns f x0 c) (w : World) (hf : Hid (BoxF w fb f.l)) : CK 58 #[.pointer (some ⟨fb, 0, none⟩), .agg #[.int .i64 x0, .int .i64 x1, .int .i64 x2, .int .i64 x3, .int .i64 x4, .int .i64 x5], .int .i64 (c : Int)] (.bool true) w := by
 have c0 := hf.out.cell 0 _ rfl
 have cl := hf.out.lt
 have e1 : ¬ fb = w.heap.size := by omega
 rcases H with ⟨rfl, h⟩ | ⟨rfl, rfl⟩ | ⟨h, rfl, h2⟩ | ⟨rfl, rfl⟩ | ⟨rfl, h⟩ | ⟨h2, h⟩ | ⟨h2, h⟩
 . rcases h with rfl | h
   . exact zq425
   . have q1 : decide (61 <= x0) = true := by simp; exact h
     have q0 : (x0 == 0) = false := by simp; omega
     exact zq426
 . exact zq425
 . rcases h2 with rfl | rfl | rfl
   . have m : f.mode = 0 := by omega
     exact zq427
   . have m : f.mode = 1 := by omega
     exact zq427
   . have m : f.mode = 3 := by omega
     exact zq427
 . exact zq425
 . have q1 : decide (51 <= x0) = true := by simp; exact h.1
   have q2 : decide (x0 <= 60) = true := by simp; exact h.2
   exact zq426
 . rcases h with h | rfl
   . have q1 : decide (11 <= x0) = true := by simp; exact h.1
     have q2 : decide (x0 <= 15) = true := by simp; exact h.2
     exact zq428
   . exact zq429
 . rcases h with h | h
   . have q1 : decide (16 <= x0) = true := by simp; exact h.1
     have q2 : decide (x0 <= 18) = true := by simp; exact h.2
     exact zq428
   . have q1 : decide (51 <= x0) = true := by simp; exact h.1
     have q2 : decide (x0 <= 60) = true := by simp; exact h.2
     have q3 : decide (16 <= x0) = true := by simp; omega
     have q4 : decide (x0 <= 18) = false := by simp; omega
     exact zq428
theorem and_10 (v : Nat) : v &&& 10 = 0 ↔ bitN v 1 = false /\ bitN v 3 = false := by
 have h : ∀ x, x < 16 -> (x &&& 10 = 0 ↔ bitN x 1 = false /\ bitN x 3 = false) := by decide
 have e : v &&& 10 = v % 16 &&& 10 := by
  have := Nat.and_mod_two_pow (a := v) (b := 10) (n := 4)
  have l : v &&& 10 < 16 := Nat.lt_of_le_of_lt Nat.and_le_right (by decide)
  rw [Nat.mod_eq_of_lt (show v &&& 10 < 2 ^ 4 from l)] at this
  exact this
 have e1 : bitN v 1 = bitN (v % 16) 1 := by unfold bitN; rw [decide_eq_decide]; omega
 have e3 : bitN v 3 = bitN (v % 16) 3 := by unfold bitN; rw [decide_eq_decide]; omega
 rw [e, e1, e3]
 exact h _ (by omega)
theorem tst_1 (v : Nat) (hv : v < 4294967296) : bits .and .i64 (v : Int) 1 = 1 ↔ bitN v 0 = true := by
 have h1 : bits .and .i64 (v : Int) 1 = ((v &&& 1 : Nat) : Int) := b_and v 1 (by omega) (by decide)
 rw [h1, Nat.and_one_is_mod]; unfold bitN; simp; omega
theorem tst_10 (v : Nat) (hv : v < 4294967296) : bits .and .i64 (v : Int) 10 = 0 ↔ bitN v 1 = false /\ bitN v 3 = false := by
 have h1 : bits .and .i64 (v : Int) 10 = ((v &&& 10 : Nat) : Int) := b_and v 10 (by omega) (by decide)
 rw [h1, <- and_10]; omega
def Ent (w : World) (b1 b2 b3 n : Nat) (us su : Bool) (s : ByteArray) (A c : Nat) : Prop := isLf (ldS s A) -> Tru w b3 (A / 4) /\ Cov w b1 b2 n us su (ldS s A) (ldS s A / 1024) c
def Rds (w : World) (b1 b2 b3 n : Nat) (us su : Bool) (s : ByteArray) (p c i : Nat) : Prop := ∀ k, k < i -> p * 4096 + 4 * k + 4 <= s.size -> Ent w b1 b2 b3 n us su s (p * 4096 + 4 * k) c
theorem Rds.up {w w' : World} {b1 b2 b3 n : Nat} {us su : Bool} {s : ByteArray} {p c i : Nat} (h : Rds w b1 b2 b3 n us su s p c i) (hu : Up w w') (l1 : b1 < w.heap.size) (l2 : b2 < w.heap.size) (l3 : b3 < w.heap.size) : Rds w' b1 b2 b3 n us su s p c i :=
 fun k hk hs hl => ⟨hu _ _ l3 (h k hk hs hl).1, (h k hk hs hl).2.up hu l1 l2⟩
theorem Rds.next {w : World} {b1 b2 b3 n : Nat} {us su : Bool} {s : ByteArray} {p c i : Nat} (h : Rds w b1 b2 b3 n us su s p c i) (he : p * 4096 + 4 * i + 4 <= s.size -> Ent w b1 b2 b3 n us su s (p * 4096 + 4 * i) c) : Rds w b1 b2 b3 n us su s p c (i + 1) := fun k hk hs => by
 rcases Nat.lt_or_ge k i with h3 | h3
 . exact h k h3 hs
 . obtain rfl : k = i := by omega
   exact he hs
theorem Rds.end {w : World} {b1 b2 b3 n : Nat} {us su : Bool} {s : ByteArray} {p c i : Nat} (h : Rds w b1 b2 b3 n us su s p c i) (he : s.size < p * 4096 + 4 * i + 4) (j : Nat) : Rds w b1 b2 b3 n us su s p c j := fun k hk hs => h k (by omega) hs
set_option maxRecDepth 100000 in
theorem k_readL (tb b0 b1 b2 b3 b4 n m p : Nat) (s : ByteArray) (hs : s.size <= 65536) (hn : Hid (n = (s.size + 4095) / 4096)) (hm : Hid (m = s.size / 4 + 1)) (hp : p < n) (us su : Bool) (w : World) (hw : Hid (Tabs w tb b0 b1 b2 b3 b4 n m)) :
 Calls prog 112 #[.pointer (some ⟨tb, 0, none⟩), .string s, .int .i64 p, .bool false, .bool us, .bool su] w fun o w' => o = .returned (.tuple #[]) /\ Tabs w' tb b0 b1 b2 b3 b4 n m /\ Kept [b0, b1, b2, b3] w w' /\ Up w w' /\ Tru w' b0 p /\ Rds w' b1 b2 b3 n us su s p 1 1024 := by
 have hn20 : n <= 20 := by have := hn.out; omega
 have z0 := hw.out.hdr.lt
 have c0 := hw.out.hdr.cell 0 _ rfl
 obtain ⟨r0, e0⟩ := hw.out.s0.cell p hp
 have f0 := hw.out.s0.fro p
 have W0 := hide1 (hw.out.set b0 p true (by simp))
 have K0 : Hid (Kept [b0, b1, b2, b3] w (w.setCell ⟨b0, p, none⟩ (.bool true))) := zq140
 have I0 : Hid (Up w (w.setCell ⟨b0, p, none⟩ (.bool true)) /\ Tru (w.setCell ⟨b0, p, none⟩ (.bool true)) b0 p /\ Rds (w.setCell ⟨b0, p, none⟩ (.bool true)) b1 b2 b3 n us su s p 1 0) := hide1 ⟨Up.set w b0 p, World.cell?_setCell_same _ _ _ e0, fun k hk => absurd hk (by omega)⟩
 clear hw
 go_enter func112, ntmps112
 go_wp2_with fail
 go_loopw [12] (fun x wr => ∃ i : Nat, i <= 1024 /\ x = .int .i64 i /\ Hid (Tabs wr tb b0 b1 b2 b3 b4 n m) /\ Hid (Kept [b0, b1, b2, b3] w wr) /\ Hid (Up w wr /\ Tru wr b0 p /\ Rds wr b1 b2 b3 n us su s p 1 i)) (fun x _ => 1024 - (intOf x).toNat)
 case atStart => exact ⟨0, by omega, rfl, W0, K0, I0⟩
 case round =>
  obtain ⟨i, hi, rfl, hb, hk, hI⟩ := hrel
  clear W0 K0 I0 z0 c0 e0 f0
  by_cases hlt : i < 1024
  . have hlt' : decide ((i : Int) < 1024) = true := by simp; omega
    obtain ⟨A, hA⟩ : ∃ A : Nat, (p : Int) * 4096 + 4 * (i : Int) = A := ⟨p * 4096 + 4 * i, by omega⟩
    by_cases hs4 : A + 4 <= s.size
    . have hs4' : decide ((A : Int) + 4 > (s.size : Int)) = false := by simp; omega
      have hs4'' : decide ((s.size : Int) < (A : Int) + 4) = false := by simp; omega
      have AA := hide1 (show p * 4096 + 4 * i = A by omega)
      obtain ⟨v, ev⟩ := zn2 (ldS s A)
      have hv : v < 4294967296 := by rw [<- ev]; exact ldS_lt s A
      have LE := hide1 (k_leB s A hs4 (by omega) v ev wr)
      have EV := hide1 ev
      clear ev
      go_wp2_with fail
      refine LE.out.mono ?_
      rintro o w1 ⟨rfl, hk1⟩
      have B1 := hide1 (hb.out.kept hk1)
      have K1 : Hid (Kept [b0, b1, b2, b3] w w1) := hide1 (hk.out.trans (hk1.mono (by simp)))
      have I1 : Hid (Up w w1 /\ Tru w1 b0 p /\ Rds w1 b1 b2 b3 n us su s p 1 i) := hide1 ⟨hI.out.1.trans hk.out.size (Up.kept hk1), Up.kept hk1 _ _ hb.out.s0.lt hI.out.2.1, hI.out.2.2.up (Up.kept hk1) hb.out.s1.lt hb.out.s2.lt hb.out.s3.lt⟩
      clear hb hk hk1 LE hI
      obtain ⟨P, hP⟩ : ∃ P : Nat, (v : Int) / 1024 = P := ⟨v / 1024, by omega⟩
      have hP1 : P <= 4294967296 := by omega
      have z1 := B1.out.hdr.lt
      have c3 := B1.out.hdr.cell 3 _ rfl
      obtain ⟨L, l2, hLm⟩ : ∃ L : Nat, Int.tdiv (A : Int) 4 = L /\ L < m := ⟨A / 4, by rw [Int.tdiv_eq_ediv_of_nonneg (by omega)]; omega, by have := hm.out; omega⟩
      have l3 : L <= 70000 := by have := hm.out; omega
      obtain ⟨r3, e3⟩ := B1.out.s3.cell L hLm
      have f3 := B1.out.s3.fro L
      have B2 := hide1 (B1.out.set b3 L true (by simp))
      have K2 : Hid (Kept [b0, b1, b2, b3] w (w1.setCell ⟨b3, L, none⟩ (.bool true))) := hide1 (K1.out.setCell (.inl (by simp)) _)
      have K9 : Hid (Kept [b0, b1, b2, b3] w1 (w1.setCell ⟨b3, L, none⟩ (.bool true))) := zq140
      have CV := hide1 (k_cover tb b0 b1 b2 b3 b4 n m (by omega) 1 (by omega) P v (by omega) hv us su _ B2)
      have HP := hide1 (show v / 1024 = P by omega)
      have HL := hide1 (show A / 4 = L by rw [Int.tdiv_eq_ediv_of_nonneg (by omega)] at l2; omega)
      rcases beqC (bits .and .i64 (v : Int) 1) 1 with ⟨g1, g1'⟩ | ⟨g1, g1'⟩
      . rcases beqC (bits .and .i64 (v : Int) 10) 0 with ⟨g2, g2'⟩ | ⟨g2, g2'⟩
        . have I2 : Hid (Up w w1 /\ Tru w1 b0 p /\ Rds w1 b1 b2 b3 n us su s p 1 (i + 1)) := hide1 ⟨I1.out.1, I1.out.2.1, I1.out.2.2.next (fun _ hl => by rw [AA.out, EV.out] at hl; have := (tst_10 v hv).1 (eq_of_beq g2); unfold isLf at hl; rw [this.1, this.2] at hl; simp at hl)⟩
          exact zq430
        . clear B2
          go_wp2_with fail
          refine CV.out.mono ?_
          rintro o w3 ⟨rfl, hb3, hk3, hu3, hc3⟩
          have B3 := hide1 hb3
          have K3 := hide1 (K2.out.trans hk3)
          have U3 : Up w1 w3 := (Up.set w1 b3 L).trans K9.out.size hu3
          have I3 : Hid (Up w w3 /\ Tru w3 b0 p /\ Rds w3 b1 b2 b3 n us su s p 1 (i + 1)) := hide1 ⟨I1.out.1.trans K1.out.size U3, U3 _ _ B1.out.s0.lt I1.out.2.1, (I1.out.2.2.up U3 B1.out.s1.lt B1.out.s2.lt B1.out.s3.lt).next (fun _ hl => by
           rw [AA.out, EV.out, HP.out, HL.out]
           exact ⟨hu3 _ _ (Nat.lt_of_lt_of_le B1.out.s3.lt K9.out.size) (World.cell?_setCell_same _ _ _ e3), hc3⟩)⟩
          clear hu3 hc3 U3 I1
          clear hb3 hk3 K2 CV B1 K1 c3 e3 f3
          go_wp2_with fail
          go_roundw
          case rel => exact ⟨i + 1, by omega, by go_num, B3, K3, I3⟩
          case measure => exact zq191
      . have I2 : Hid (Up w w1 /\ Tru w1 b0 p /\ Rds w1 b1 b2 b3 n us su s p 1 (i + 1)) := hide1 ⟨I1.out.1, I1.out.2.1, I1.out.2.2.next (fun _ hl => by rw [AA.out, EV.out] at hl; exact absurd ((tst_1 v hv).2 hl.1) (by simpa using g1))⟩
        exact zq430
    . have hs4' : decide ((A : Int) + 4 > (s.size : Int)) = true := by simp; omega
      have hs4'' : decide ((s.size : Int) < (A : Int) + 4) = true := by simp; omega
      go_wp2_with fail
      (try simp only [Exit.inBlock, Exit.then])
      refine bodyPost_ret (results_none rfl _ _ _) rfl ?_
      exact ⟨rfl, hb.out, hk.out, hI.out.1, hI.out.2.1, hI.out.2.2.end (by omega) _⟩
  . have hlt' : decide ((i : Int) < 1024) = false := by simp; omega
    go_wp2_with fail
    obtain rfl : i = 1024 := by omega
    go_end0
    exact ⟨rfl, hb.out, hk.out, hI.out⟩
end
section
attribute [local go_sem ↓] Go.wp_at_zero Go.wp_at_succ
variable {w0 w w' : World} {tb b0 b1 b2 b3 b4 n m : Nat} {us su : Bool} {s : ByteArray} {p i : Nat}
def isPt (e : Nat) : Prop := bitN e 0 = true /\ bitN e 1 = false /\ bitN e 3 = false
def Low (w : World) (b0 b1 b2 b3 b4 n : Nat) (us su : Bool) (s : ByteArray) : Prop := ∀ q, q < n -> Tru w b4 q -> Tru w b0 q /\ Rds w b1 b2 b3 n us su s q 1 1024
structure RI (w0 w : World) (tb b0 b1 b2 b3 b4 n m : Nat) (us su : Bool) (s : ByteArray) (p i : Nat) : Prop where
 ta : Tabs w tb b0 b1 b2 b3 b4 n m
 kp : Kept [b0, b1, b2, b3, b4] w0 w
 up : Up w0 w
 t0 : Tru w b0 p
 lo : Low w b0 b1 b2 b3 b4 n us su s
 rd : Rds w b1 b2 b3 n us su s p 1024 i
 pt : ∀ k, k < i -> p * 4096 + 4 * k + 4 <= s.size -> isPt (ldS s (p * 4096 + 4 * k)) -> ∀ q, ldS s (p * 4096 + 4 * k) / 1024 = q + 524288 -> q < n -> Tru w b4 q
variable {w0 w w' : World} {tb b0 b1 b2 b3 b4 n m : Nat} {us su : Bool} {s : ByteArray} {p i : Nat}
theorem RI.move (h : RI w0 w tb b0 b1 b2 b3 b4 n m us su s p i) (ht : Tabs w' tb b0 b1 b2 b3 b4 n m) (hk : Kept [b0, b1, b2, b3, b4] w w') (hu : Up w w') (h4 : ∀ q, q < n -> Tru w' b4 q -> Tru w b4 q \/ Tru w' b0 q /\ Rds w' b1 b2 b3 n us su s q 1 1024) : RI w0 w' tb b0 b1 b2 b3 b4 n m us su s p i :=
 have a := h.ta
 ⟨ht, h.kp.trans hk, h.up.trans h.kp.size hu, hu _ _ a.s0.lt h.t0, fun q hq h5 => (h4 q hq h5).elim (fun h6 => ⟨hu _ _ a.s0.lt (h.lo q hq h6).1, (h.lo q hq h6).2.up hu a.s1.lt a.s2.lt a.s3.lt⟩) id, h.rd.up hu a.s1.lt a.s2.lt a.s3.lt, fun k hk h1 h2 q h3 h5 => hu _ _ a.s4.lt (h.pt k hk h1 h2 q h3 h5)⟩
theorem RI.kept (h : RI w0 w tb b0 b1 b2 b3 b4 n m us su s p i) (hk : Kept [] w w') : RI w0 w' tb b0 b1 b2 b3 b4 n m us su s p i :=
 h.move (h.ta.kept hk) (hk.mono (by simp)) (Up.kept hk) (fun q _ h5 => .inl ((hk.cell (p := ⟨b4, q, none⟩) h.ta.s4.lt (by simp)).symm.trans h5))
theorem RI.four (h : RI w0 w tb b0 b1 b2 b3 b4 n m us su s p i) (ht : Tabs w' tb b0 b1 b2 b3 b4 n m) (hk : Kept [b0, b1, b2, b3] w w') (hu : Up w w') : RI w0 w' tb b0 b1 b2 b3 b4 n m us su s p i :=
 h.move ht (hk.mono (by simp)) hu (fun q _ h5 => .inl ((hk.cell (p := ⟨b4, q, none⟩) h.ta.s4.lt h.ta.n4).symm.trans h5))
theorem RI.next (h : RI w0 w tb b0 b1 b2 b3 b4 n m us su s p i) {A v : Nat} (hA : p * 4096 + 4 * i = A) (hv : ldS s A = v) (h1 : isLf v -> Tru w b3 (A / 4) /\ Cov w b1 b2 n us su v (v / 1024) 1024) (h2 : isPt v -> ∀ q, v / 1024 = q + 524288 -> q < n -> Tru w b4 q) : RI w0 w tb b0 b1 b2 b3 b4 n m us su s p (i + 1) := by
 refine ⟨h.ta, h.kp, h.up, h.t0, h.lo, h.rd.next (fun _ => by unfold Ent; rw [hA, hv]; exact h1), fun k hk q1 q2 => ?_⟩
 rcases Nat.lt_or_ge k i with h3 | h3
 . exact h.pt k h3 q1 q2
 . obtain rfl : k = i := by omega
   rw [hA, hv] at q2 |-
   exact h2 q2
theorem RI.end (h : RI w0 w tb b0 b1 b2 b3 b4 n m us su s p i) (he : s.size < p * 4096 + 4 * i + 4) (j : Nat) : RI w0 w tb b0 b1 b2 b3 b4 n m us su s p j := ⟨h.ta, h.kp, h.up, h.t0, h.lo, h.rd.end he j, fun k hk q1 => h.pt k (by omega) q1⟩
set_option maxRecDepth 100000 in
theorem k_readR (tb b0 b1 b2 b3 b4 n m p : Nat) (s : ByteArray) (hs : s.size <= 65536) (hn : Hid (n = (s.size + 4095) / 4096)) (hm : Hid (m = s.size / 4 + 1)) (hp : p < n) (us su : Bool) (w : World) (hw : Hid (Tabs w tb b0 b1 b2 b3 b4 n m)) (hl : Hid (∀ q, q < n -> ¬ Tru w b4 q)) :
 Calls prog 112 #[.pointer (some ⟨tb, 0, none⟩), .string s, .int .i64 p, .bool true, .bool us, .bool su] w fun o w' => o = .returned (.tuple #[]) /\ RI w w' tb b0 b1 b2 b3 b4 n m us su s p 1024 := by
 have hn20 : n <= 20 := by have := hn.out; omega
 have z0 := hw.out.hdr.lt
 have c0 := hw.out.hdr.cell 0 _ rfl
 obtain ⟨r0, e0⟩ := hw.out.s0.cell p hp
 have f0 := hw.out.s0.fro p
 have K0 : Hid (Kept [b0, b1, b2, b3] w (w.setCell ⟨b0, p, none⟩ (.bool true))) := zq140
 have I0 : Hid (RI w (w.setCell ⟨b0, p, none⟩ (.bool true)) tb b0 b1 b2 b3 b4 n m us su s p 0) := hide1 ⟨hw.out.set b0 p true (by simp), K0.out.mono (by simp), Up.set w b0 p, World.cell?_setCell_same _ _ _ e0, fun q hq h => absurd ((K0.out.cell hw.out.s4.lt hw.out.n4).symm.trans h) (hl.out q hq), fun k hk => absurd hk (by omega), fun k hk => absurd hk (by omega)⟩
 clear hw hl K0
 go_enter func112, ntmps112
 go_wp2_with fail
 go_loopw [12] (fun x wr => ∃ i : Nat, i <= 1024 /\ x = .int .i64 i /\ Hid (RI w wr tb b0 b1 b2 b3 b4 n m us su s p i)) (fun x _ => 1024 - (intOf x).toNat)
 case atStart => exact ⟨0, by omega, rfl, I0⟩
 case round =>
  obtain ⟨i, hi, rfl, hI⟩ := hrel
  clear I0 z0 c0 e0 f0
  by_cases hlt : i < 1024
  . have hlt' : decide ((i : Int) < 1024) = true := by simp; omega
    obtain ⟨A, hA⟩ : ∃ A : Nat, (p : Int) * 4096 + 4 * (i : Int) = A := ⟨p * 4096 + 4 * i, by omega⟩
    by_cases hs4 : A + 4 <= s.size
    . have hs4' : decide ((A : Int) + 4 > (s.size : Int)) = false := by simp; omega
      have hs4'' : decide ((s.size : Int) < (A : Int) + 4) = false := by simp; omega
      have AA := hide1 (show p * 4096 + 4 * i = A by omega)
      obtain ⟨v, ev⟩ := zn2 (ldS s A)
      have hv : v < 4294967296 := by rw [<- ev]; exact ldS_lt s A
      have LE := hide1 (k_leB s A hs4 (by omega) v ev wr)
      have EV := hide1 ev
      clear ev
      go_wp2_with fail
      refine LE.out.mono ?_
      rintro o w1 ⟨rfl, hk1⟩
      have J1 := hide1 (hI.out.kept hk1)
      clear hI hk1 LE
      obtain ⟨P, hP⟩ : ∃ P : Nat, (v : Int) / 1024 = P := ⟨v / 1024, by omega⟩
      have hP1 : P <= 4294967296 := by omega
      have HP := hide1 (show v / 1024 = P by omega)
      have z1 := J1.out.ta.hdr.lt
      rcases beqC (bits .and .i64 (v : Int) 1) 1 with ⟨g1, g1'⟩ | ⟨g1, g1'⟩
      . rcases beqC (bits .and .i64 (v : Int) 10) 0 with ⟨g2, g2'⟩ | ⟨g2, g2'⟩
        . have NL : Hid (¬ isLf v) := hide1 (fun hl => by have := (tst_10 v hv).1 (eq_of_beq g2); unfold isLf at hl; rw [this.1, this.2] at hl; simp at hl)
          by_cases h0 : 0 <= (P : Int) - 524288
          . obtain ⟨q, hq⟩ : ∃ q : Nat, (P : Int) - 524288 = q := ⟨P - 524288, by omega⟩
            by_cases h1 : q < n
            . have h1' : decide ((q : Int) < (n : Int)) = true := by simp; omega
              have c4 := J1.out.ta.hdr.cell 4 _ rfl
              obtain ⟨r4, e4⟩ := J1.out.ta.s4.cell q h1
              have f4 := J1.out.ta.s4.fro q
              cases r4
              . have B5 := hide1 (J1.out.ta.set b4 q true (by simp))
                have K5 : Hid (Kept [b0, b1, b2, b3, b4] w1 (w1.setCell ⟨b4, q, none⟩ (.bool true))) := zq140
                have T5 : Hid (Tru (w1.setCell ⟨b4, q, none⟩ (.bool true)) b4 q) := hide1 (World.cell?_setCell_same _ _ _ e4)
                have RD := hide1 (k_readL tb b0 b1 b2 b3 b4 n m q s hs hn hm h1 us su _ B5)
                have n1 : ¬ tb = b4 := fun h => J1.out.ta.ne (by simp [h])
                have n2 : ¬ b4 = tb := fun h => n1 h.symm
                go_wp2_with fail
                refine RD.out.mono ?_
                rintro o w5 ⟨rfl, hb5, hk5, hu5, ht5, hr5⟩
                have U5 : Up w1 w5 := (Up.set w1 b4 q).trans K5.out.size hu5
                have I6 := hide1 (J1.out.move hb5 (K5.out.trans (hk5.mono (by simp))) U5 (fun q' _ h6 => by
                 by_cases e : q' = q
                 . rw [e]; exact .inr ⟨ht5, hr5⟩
                 . have h7 : Tru (w1.setCell ⟨b4, q, none⟩ (.bool true)) b4 q' := (hk5.cell (p := ⟨b4, q', none⟩) B5.out.s4.lt J1.out.ta.n4).symm.trans h6
                   unfold Tru at h7
                   rw [World.cell?_setCell_other _ _ _ _ (by simp)] at h7
                   exact .inl h7))
                have I7 := hide1 (I6.out.next AA.out EV.out (fun h => absurd h NL.out) (fun _ q' e1 _ => by
                 have : q' = q := by rw [HP.out] at e1; omega
                 rw [this]
                 exact hu5 _ _ B5.out.s4.lt T5.out))
                clear hb5 hk5 hu5 ht5 hr5 K5 RD U5 I6 T5 B5 J1
                exact zq431
              . have I7 := hide1 (J1.out.next AA.out EV.out (fun h => absurd h NL.out) (fun _ q' e1 _ => by
                 have : q' = q := by rw [HP.out] at e1; omega
                 rw [this]; exact e4))
                exact zq431
            . have h1' : decide ((q : Int) < (n : Int)) = false := by simp; omega
              have c4 := J1.out.ta.hdr.cell 4 _ rfl
              exact zq432
          . have h0' : decide (0 <= (P : Int) - 524288) = false := by simp; omega
            exact zq432
        . have c3 := J1.out.ta.hdr.cell 3 _ rfl
          obtain ⟨L, l2, hLm⟩ : ∃ L : Nat, Int.tdiv (A : Int) 4 = L /\ L < m := ⟨A / 4, by rw [Int.tdiv_eq_ediv_of_nonneg (by omega)]; omega, by have := hm.out; omega⟩
          have l3 : L <= 70000 := by have := hm.out; omega
          have HL := hide1 (show A / 4 = L by rw [Int.tdiv_eq_ediv_of_nonneg (by omega)] at l2; omega)
          obtain ⟨r3, e3⟩ := J1.out.ta.s3.cell L hLm
          have f3 := J1.out.ta.s3.fro L
          have B2 := hide1 (J1.out.ta.set b3 L true (by simp))
          have K9 : Hid (Kept [b0, b1, b2, b3] w1 (w1.setCell ⟨b3, L, none⟩ (.bool true))) := zq140
          have CV := hide1 (k_cover tb b0 b1 b2 b3 b4 n m (by omega) 1024 (by omega) P v (by omega) hv us su _ B2)
          go_wp2_with fail
          refine CV.out.mono ?_
          rintro o w3 ⟨rfl, hb3, hk3, hu3, hc3⟩
          have U3 : Up w1 w3 := (Up.set w1 b3 L).trans K9.out.size hu3
          have I3 := hide1 (J1.out.four hb3 (K9.out.trans hk3) U3)
          have I7 := hide1 (I3.out.next AA.out EV.out (fun _ => by
           rw [HL.out, HP.out]
           exact ⟨hu3 _ _ (Nat.lt_of_lt_of_le J1.out.ta.s3.lt K9.out.size) (World.cell?_setCell_same _ _ _ e3), hc3⟩) (fun h => absurd ((tst_10 v hv).2 h.2) (by simpa using g2)))
          clear hb3 hk3 hu3 hc3 U3 I3 CV B2 K9 c3 e3 f3 J1
          exact zq431
      . have I7 := hide1 (J1.out.next AA.out EV.out (fun h => absurd ((tst_1 v hv).2 h.1) (by simpa using g1)) (fun h => absurd ((tst_1 v hv).2 h.1) (by simpa using g1)))
        exact zq431
    . have hs4' : decide ((A : Int) + 4 > (s.size : Int)) = true := by simp; omega
      have hs4'' : decide ((s.size : Int) < (A : Int) + 4) = true := by simp; omega
      go_wp2_with fail
      (try simp only [Exit.inBlock, Exit.then])
      refine bodyPost_ret (results_none rfl _ _ _) rfl ?_
      exact ⟨rfl, hI.out.end (by omega) _⟩
  . have hlt' : decide ((i : Int) < 1024) = false := by simp; omega
    obtain rfl : i = 1024 := by omega
    go_wp2_with fail
    go_end0
    exact ⟨rfl, hI.out⟩
end
section
attribute [local go_sem ↓] Go.wp_at_zero Go.wp_at_succ
theorem Tryz.info4 : (prog.info? 4).map (fun i => (i.zero, i.size, i.bytes)) = some (some (.bool false), 1, 1) := by kernel_rfl
theorem mkBo (n : Nat) (hn : n <= 100000) (w : World) : (Instr.makeSlice 104 (.int .i64 (n : Int)) (.int .i64 (n : Int))).run prog w = .ok (.slice (some ⟨w.heap.size, 0, none⟩) n n) (w.alloc (.cells (madeCells #[.bool false] n) 4)) := by
 obtain ⟨i0, hi, hz0, hz1, hz2⟩ := info_parts Tryz.info4
 have h := run_makeSlice (P := prog) w 104 4 i0 (.bool false) Tryz.underlying104 hi hz0 .i64 .i64 n n (by omega) (Int.le_refl _) (by rw [hz1]; omega) (by rw [hz2]; omega) (by omega)
 rw [hz1] at h
 simpa [Value.cells] using h
theorem Bo.new (w : World) (n T : Nat) : Bo (w.alloc (.cells (madeCells #[.bool false] n) T)) w.heap.size n :=
 ⟨fun j hj => ⟨false, by simp [madeCells, hj, Nat.mod_one]⟩, fun o => by simp, by simp⟩
theorem wpAnyH_many {P : Program} {ops : Array Oper} {Q : Exit -> Act -> World -> Prop} {md : Region.Mode} {S : World -> Prop} (J : Nat -> Array Bool -> Act -> World -> Prop) (k : Nat)
 (hs : ∀ n l a w, J (n + 1) l a w -> Region.ready md ops l ≠ [] /\ ∀ i ∈ Region.ready md ops l, wpOp P ops Q i (fun a' w' => S w' /\ J n (l.setIfInBounds i true) a' w') a w)
 (h0 : ∀ l a w, J 0 l a w -> wpAnyH P md ops Q S k l a w) : ∀ n l a w, J n l a w -> wpAnyH P md ops Q S (n + k) l a w
 | 0, l, a, w, h => by rw [Nat.zero_add]; exact h0 l a w h
 | n + 1, l, a, w, h => by
  rw [Nat.succ_add]
  exact wpAnyH_all rfl (hs n l a w h).1 (fun i hi => wpOp_mono (fun a' w' h' => ⟨h'.1, wpAnyH_many J k hs h0 n _ a' w' h'.2⟩) ((hs n l a w h).2 i hi))
theorem Kept.fresh {F G : List Nat} {a b c : World} (h : Kept F a b) (k : Kept G b c) (hf : ∀ x ∈ G, a.heap.size <= x) : Kept F a c :=
 ⟨k.os.trans h.os, k.tape.trans h.tape, k.output.trans h.output, Nat.le_trans h.size k.size, fun i hi hn => (k.block i (Nat.lt_of_lt_of_le hi h.size) (fun hG => absurd (hf i hG) (by omega))).trans (h.block i hi hn)⟩
def Fl (w : World) (b n : Nat) : Prop := ∀ q, q < n -> w.cell? ⟨b, q, none⟩ = some (.bool false)
theorem Fl.kept {w w' : World} {b n : Nat} (h : Fl w b n) (hk : Kept [] w w') (hb : b < w.heap.size) : Fl w' b n := fun q hq => (hk.cell (p := ⟨b, q, none⟩) hb (by simp)).trans (h q hq)
theorem Fl.no {w : World} {b n : Nat} (h : Fl w b n) : ∀ q, q < n -> ¬ Tru w b q := fun q hq ht => by
 unfold Tru at ht; rw [h q hq] at ht; simp at ht
def Mk (w0 w : World) (b : Bool) (t : Value) (n : Nat) : Prop := b = true -> ∃ c : Nat, t = .slice (some ⟨c, 0, none⟩) n n /\ Bo w c n /\ w0.heap.size <= c /\ Fl w c n
def blk : Value -> Nat
 | .slice (some a) _ _ => a.block
 | _ => 0
theorem Mk.alloc {w0 w : World} {b : Bool} {t : Value} {n : Nat} (h : Mk w0 w b t n) (o : Obj) : Mk w0 (w.alloc o) b t n := fun e => by
 obtain ⟨c, h1, h2, h3, h4⟩ := h e
 exact ⟨c, h1, h2.more ((Kept.refl [] w).alloc o) (by simp), h3, h4.kept ((Kept.refl [] w).alloc o) h2.lt⟩
theorem Mk.new {w0 w : World} (hk : Kept [] w0 w) (n T : Nat) : Mk w0 (w.alloc (.cells (madeCells #[.bool false] n) T)) true (.slice (some ⟨w.heap.size, 0, none⟩) n n) n := fun _ => ⟨_, rfl, Bo.new w n T, hk.size, fun q hq => by simp [madeCells, hq, Nat.mod_one]⟩
theorem Mk.d {w0 w : World} {b : Bool} {t : Value} {n : Nat} (h : Mk w0 w b t n) (e : b = true) (T : Nat) : blk t ≠ blk (.slice (some ⟨w.heap.size, 0, none⟩) T T) /\ blk (.slice (some ⟨w.heap.size, 0, none⟩) T T) ≠ blk t := by
 obtain ⟨c, rfl, h2, _⟩ := h e
 have := h2.lt
 show c ≠ w.heap.size /\ w.heap.size ≠ c
 omega
def Dif (b b' : Bool) (t t' : Value) : Prop := b = true -> b' = true -> blk t ≠ blk t'
def Rt (w : World) (tb b0 b1 b2 b3 b4 n m : Nat) (f : Fc) : Prop := ∀ p : Nat, p < n -> f.satp % 4194304 = (p : Int) + 524288 -> ∃ w0, RI w0 w tb b0 b1 b2 b3 b4 n m (f.mode == 0) (f.mode == 1 && (bits .and .i64 (f.status / 262144) 1 == 1)) f.ram p 1024
def TbR (n m : Nat) (f : Fc) (o : Ending) (w : World) : Prop := ∃ tb b0 b1 b2 b3 b4 : Nat, o = .returned (.pointer (some ⟨tb, 0, none⟩)) /\ Tabs w tb b0 b1 b2 b3 b4 n m /\ Rt w tb b0 b1 b2 b3 b4 n m f
def mkAct (fb : Nat) (s : ByteArray) (n k m : Nat) (t1 t2 t3 t4 t5 : Value) : Act := { tmps := #[.pointer (some ⟨fb, 0, none⟩), undef, .pointer none, .int .i64 n, undef, undef, .pointer (some ⟨fb, 0, none⟩), .pointer (some ⟨fb, 0, none⟩), .pointer (some ⟨fb, 13, none⟩), .string s, .int .i64 s.size, .int .i64 (s.size + 4096), .int .i64 (s.size + 4096 - 1), .int .i64 n, .int .i64 n, t1, .int .i64 n, t2, .int .i64 n, t3, .int .i64 n, t4, .pointer (some ⟨fb, 0, none⟩), .pointer (some ⟨fb, 0, none⟩), .pointer (some ⟨fb, 13, none⟩), .string s, .int .i64 s.size, .int .i64 k, .int .i64 m, t5, undef, undef, undef, undef, undef, undef, undef, undef, undef, undef, undef, undef, undef, undef, undef, undef, undef, undef, undef, undef, undef, undef, undef, undef, undef, undef, undef, undef, undef, undef, undef, undef, undef, undef, undef, undef, undef, undef, undef, undef, undef, undef], defers := [] }
def mkLst (b1 b2 b3 b4 b5 : Bool) : Array Bool := #[true, b1, true, b2, true, b3, true, b4, true, true, true, true, true, true, true, b5, false, false, false]
def mkJ (w0 : World) (fb : Nat) (s : ByteArray) (n k m : Nat) (c : Nat) (l : Array Bool) (a : Act) (w : World) : Prop :=
 ∃ (b1 b2 b3 b4 b5 : Bool) (t1 t2 t3 t4 t5 : Value), c = (!b1).toNat + (!b2).toNat + (!b3).toNat + (!b4).toNat + (!b5).toNat /\ l = mkLst b1 b2 b3 b4 b5 /\ a = mkAct fb s n k m t1 t2 t3 t4 t5 /\ Mk w0 w b1 t1 n /\ Mk w0 w b2 t2 n /\ Mk w0 w b3 t3 n /\ Mk w0 w b4 t4 n /\ Mk w0 w b5 t5 m /\ (Dif b2 b3 t2 t3 /\ Dif b4 b1 t4 t1 /\ Dif b4 b2 t4 t2 /\ Dif b4 b3 t4 t3 /\ Dif b4 b5 t4 t5) /\ Kept [] w0 w
theorem mem_of_eq {i : Nat} {l l' : List Nat} (h : i ∈ l) (e : l = l') : i ∈ l' := e ▸ h
theorem ne_nil_of {l : List Nat} (h : l.isEmpty = false) : l ≠ [] := by rintro rfl; cases h
set_option maxRecDepth 100000 in
theorem k_tablesOf (fb z : Nat) (f : Fc) (hz : z <= 65536) (hf1 : FcOk f z) (w : World) (hf : Hid (BoxF w fb f.l)) : Calls prog 66 #[.pointer (some ⟨fb, 0, none⟩)] w fun o w' => TbR ((z + 4095) / 4096) (z / 4 + 1) f o w' /\ Kept [] w w' := by
 have c0 := hf.out.cell 0 _ rfl
 have c2 := hf.out.cell 2 _ rfl
 have c7 := hf.out.cell 7 _ rfl
 have c13 := hf.out.cell 13 _ rfl
 have cl := hf.out.lt
 have zr := hf1.ram
 have sa := hf1.satp
 obtain ⟨s, hs⟩ := zn1 (f.ram)
 rw [<- hs] at zr c13
 obtain ⟨n, hn⟩ := zn1 ((z + 4095) / 4096 : Nat)
 obtain ⟨m, hm⟩ := zn1 (z / 4 + 1 : Nat)
 rw [<- hn, <- hm]
 have mk1 := mkBo n (by omega)
 have mk2 := mkBo m (by omega)
 have q1 : Int.tdiv ((s.size : Int) + 4095) 4096 = n := zq146
 have q2 : Int.tdiv ((s.size : Int) + 4096 - 1) 4096 = n := zq146
 have q3 : Int.tdiv (s.size : Int) 4 + 1 = m := zq146
 obtain ⟨k, q4⟩ : ∃ k : Nat, Int.tdiv (s.size : Int) 4 = k := ⟨s.size / 4, by rw [Int.tdiv_eq_ediv_of_nonneg (by omega)]; omega⟩
 have q5 : (k : Int) + 1 = m := by omega
 have hs6 : s.size <= 65536 := by omega
 have q6 : k <= 100000 := by omega
 have q7 : n <= 100 := by omega
 have q8 : m <= 100000 := by omega
 have KC : ∀ w', Kept [] w w' -> w'.cell? ⟨fb, 13, none⟩ = some (.string s) := fun w' h => (h.cell cl (by simp)).trans c13
 have u1 : IntKind.i64.wrap (k : Int) = k := zq115
 have u2 : IntKind.i64.wrap ((k : Int) + 1) = m := by rw [wrap_in _ (by omega)]; exact q5
 have u3 : IntKind.i64.wrap (m : Int) = m := zq115
 have HN := hide1 hn
 have HM := hide1 hm
 have HS := hide1 hs
 have ZR := hide1 zr
 clear hn hm hs q3 zr hz hf1
 go_enter func66, ntmps66
 go_upto_region 2 with fail
 go_cut [4] (fun q wx => (∃ tb b0 b1 b2 b3 b4 : Nat, q = .pointer (some ⟨tb, 0, none⟩) /\ Hid (Tabs wx tb b0 b1 b2 b3 b4 n m) /\ Hid (Fl wx b4 n) /\ Hid (∀ x ∈ [b0, b1, b2, b3, b4], w.heap.size <= x)) /\ Hid (Kept [] w wx))
 case first =>
  refine wp_region_held_drew (S := fun w' => w'.cell? ⟨fb, 13, none⟩ = some (.string s)) (by kernel_rfl) (KC _ (Kept.refl _ _).drew) (fun hHeld => ?_)
  refine tk 0 14 (.int .i64 n) hHeld ?_
  refine tk 2 16 (.int .i64 n) hHeld ?_
  refine tk 4 18 (.int .i64 n) hHeld ?_
  refine tk 6 20 (.int .i64 n) hHeld ?_
  refine tk 8 22 (.pointer (some ⟨fb, 0, none⟩)) hHeld ?_
  refine tk 9 23 (.pointer (some ⟨fb, 0, none⟩)) hHeld ?_
  refine tk 10 24 (.pointer (some ⟨fb, 13, none⟩)) hHeld ?_
  refine tk 11 25 (.string s) hHeld ?_
  refine tk 12 26 (.int .i64 s.size) hHeld ?_
  refine tk 13 27 (.int .i64 k) hHeld ?_
  refine tk 14 28 (.int .i64 m) hHeld ?_
  refine wpAnyH_many (mkJ w fb s n k m) 3 ?_ ?_ 5 _ _ _ ?_
  . rintro c l a w' ⟨b1, b2, b3, b4, b5, t1, t2, t3, t4, t5, hc, rfl, rfl, m1, m2, m3, m4, m5, nd, hk⟩
    refine ⟨?_, ?_⟩
    . cases b1 <;> cases b2 <;> cases b3 <;> cases b4 <;> cases b5 <;> first | exact ne_nil_of (by kernel_rfl) | (exact absurd hc (by simp))
    . intro i hi
      have hr : i ∈ (if b1 then [] else [1]) ++ (if b2 then [] else [3]) ++ (if b3 then [] else [5]) ++ (if b4 then [] else [7]) ++ (if b5 then [] else [15]) ++ (if b1 && b2 && b3 && b4 && b5 then [16] else []) := by
       refine mem_of_eq hi ?_
       clear hi hc nd m1 m2 m3 m4 m5
       cases b1 <;> cases b2 <;> cases b3 <;> cases b4 <;> cases b5 <;> kernel_rfl
      clear hi
      simp only [List.mem_append, List.mem_ite_nil_left, List.mem_singleton, List.mem_ite_nil_right, Bool.and_eq_true, Bool.not_eq_true] at hr
      rcases hr with ((((⟨rfl, rfl⟩ | ⟨rfl, rfl⟩) | ⟨rfl, rfl⟩) | ⟨rfl, rfl⟩) | ⟨rfl, rfl⟩) | ⟨⟨⟨⟨⟨rfl, rfl⟩, rfl⟩, rfl⟩, rfl⟩, rfl⟩
      . refine wpOp_step (o := ⟨some 15, .makeSlice 104 (.tmp 14) (.tmp 14), _, _, _, _⟩) rfl (fun K'' hK'' => ?_)
        unfold mkAct
        go_simp
        exact hK'' _ _ ⟨KC _ (hk.alloc _), true, b2, b3, b4, b5, _, t2, t3, t4, t5, by simp at hc |-; omega, rfl, rfl, (Mk.new hk _ _), (m2.alloc _), (m3.alloc _), (m4.alloc _), (m5.alloc _), ⟨nd.1, fun e _ => (m4.d e _).1, nd.2.2⟩, hk.alloc _⟩
      . refine wpOp_step (o := ⟨some 17, .makeSlice 104 (.tmp 16) (.tmp 16), _, _, _, _⟩) rfl (fun K'' hK'' => ?_)
        unfold mkAct
        go_simp
        exact hK'' _ _ ⟨KC _ (hk.alloc _), b1, true, b3, b4, b5, t1, _, t3, t4, t5, by simp at hc |-; omega, rfl, rfl, (m1.alloc _), (Mk.new hk _ _), (m3.alloc _), (m4.alloc _), (m5.alloc _), ⟨fun _ e => (m3.d e _).2, nd.2.1, fun e _ => (m4.d e _).1, nd.2.2.2⟩, hk.alloc _⟩
      . refine wpOp_step (o := ⟨some 19, .makeSlice 104 (.tmp 18) (.tmp 18), _, _, _, _⟩) rfl (fun K'' hK'' => ?_)
        unfold mkAct
        go_simp
        exact hK'' _ _ ⟨KC _ (hk.alloc _), b1, b2, true, b4, b5, t1, t2, _, t4, t5, by simp at hc |-; omega, rfl, rfl, (m1.alloc _), (m2.alloc _), (Mk.new hk _ _), (m4.alloc _), (m5.alloc _), ⟨fun e _ => (m2.d e _).1, nd.2.1, nd.2.2.1, fun e _ => (m4.d e _).1, nd.2.2.2.2⟩, hk.alloc _⟩
      . refine wpOp_step (o := ⟨some 21, .makeSlice 104 (.tmp 20) (.tmp 20), _, _, _, _⟩) rfl (fun K'' hK'' => ?_)
        unfold mkAct
        go_simp
        exact hK'' _ _ ⟨KC _ (hk.alloc _), b1, b2, b3, true, b5, t1, t2, t3, _, t5, by simp at hc |-; omega, rfl, rfl, (m1.alloc _), (m2.alloc _), (m3.alloc _), (Mk.new hk _ _), (m5.alloc _), ⟨nd.1, fun _ e => (m1.d e _).2, fun _ e => (m2.d e _).2, fun _ e => (m3.d e _).2, fun _ e => (m5.d e _).2⟩, hk.alloc _⟩
      . refine wpOp_step (o := ⟨some 29, .makeSlice 104 (.tmp 28) (.tmp 28), _, _, _, _⟩) rfl (fun K'' hK'' => ?_)
        unfold mkAct
        go_simp
        exact hK'' _ _ ⟨KC _ (hk.alloc _), b1, b2, b3, b4, true, t1, t2, t3, t4, _, by simp at hc |-; omega, rfl, rfl, (m1.alloc _), (m2.alloc _), (m3.alloc _), (m4.alloc _), (Mk.new hk _ _), ⟨nd.1, nd.2.1, nd.2.2.1, nd.2.2.2.1, fun e _ => (m4.d e _).1⟩, hk.alloc _⟩
      . exact absurd hc (by simp)
  . rintro l a w' ⟨b1, b2, b3, b4, b5, t1, t2, t3, t4, t5, hc, rfl, rfl, m1, m2, m3, m4, m5, nd, hk⟩
    cases b1 <;> cases b2 <;> cases b3 <;> cases b4 <;> cases b5 <;> first | (exfalso; revert hc; simp; done) | skip
    obtain ⟨c1, rfl, o1, g1, l1⟩ := m1 rfl
    obtain ⟨c2, rfl, o2, g2, l2⟩ := m2 rfl
    obtain ⟨c3, rfl, o3, g3, l3⟩ := m3 rfl
    obtain ⟨c4, rfl, o4, g4, l4⟩ := m4 rfl
    obtain ⟨c5, rfl, o5, g5, l5⟩ := m5 rfl
    have hne : ¬ c2 = c3 := nd.1 rfl rfl
    have hn4 : ¬ c4 ∈ [c1, c2, c3, c5] := by
     have q1 : c4 ≠ c1 := nd.2.1 rfl rfl
     have q2 : c4 ≠ c2 := nd.2.2.1 rfl rfl
     have q3 : c4 ≠ c3 := nd.2.2.2.1 rfl rfl
     have q5 : c4 ≠ c5 := nd.2.2.2.2 rfl rfl
     simp [q1, q2, q3, q5]
    have hS : w'.cell? ⟨fb, 13, none⟩ = some (.string s) := KC _ hk
    clear nd m1 m2 m3 m4 m5 hc hHeld
    unfold mkAct mkLst
    refine tk 16 30 (.agg #[.slice (some ⟨c1, 0, none⟩) n n, .slice (some ⟨c2, 0, none⟩) n n, .slice (some ⟨c3, 0, none⟩) n n, .slice (some ⟨c5, 0, none⟩) m m, .slice (some ⟨c4, 0, none⟩) n n]) hS ?_
    refine wpAnyH_ready (rs := [17]) (by kernel_rfl) (by simp) ?_
    refine AllReadyH.cons (o := ⟨some 31, .box 106 (.tmp 30), _, _, _, _⟩) rfl (fun K'' hK'' => ?_) AllReadyH.nil
    go_simp
    refine hK''.out _ _ (KC _ (hk.alloc _)) (fun hHeld => ?_)
    simp only [Act.put, List.setIfInBounds_toArray, List.set_cons_zero, List.set_cons_succ]
    refine tk 18 4 (.pointer (some ⟨w'.heap.size, 0, none⟩)) hHeld ?_
    refine wpAnyH_done (by kernel_rfl) ?_ _
    go_wp2_with fail
    go_meet
    case rel =>
     have K1 := (Kept.refl [] w').alloc (.cells #[.slice (some ⟨c1, 0, none⟩) n n, .slice (some ⟨c2, 0, none⟩) n n, .slice (some ⟨c3, 0, none⟩) n n, .slice (some ⟨c5, 0, none⟩) m m, .slice (some ⟨c4, 0, none⟩) n n] 106)
     exact ⟨⟨_, c1, c2, c3, c5, c4, rfl, hide1 ⟨BoxF.new w' _ _, o1.more K1 (by simp), o2.more K1 (by simp), o3.more K1 (by simp), o5.more K1 (by simp), o4.more K1 (by simp), by simp only [List.mem_cons, List.not_mem_nil, or_false, not_or]; refine ⟨?_, ?_, ?_, ?_, ?_⟩ <;> intro e <;> first | exact absurd o1.lt (by omega) | exact absurd o2.lt (by omega) | exact absurd o3.lt (by omega) | exact absurd o4.lt (by omega) | exact absurd o5.lt (by omega), hne, hn4⟩, hide1 (l4.kept K1 o4.lt), hide1 (by simp only [List.mem_cons, List.not_mem_nil, or_false]; rintro x (rfl | rfl | rfl | rfl | rfl) <;> assumption)⟩, hide1 (hk.alloc _)⟩
  . exact ⟨false, false, false, false, false, undef, undef, undef, undef, undef, rfl, rfl, rfl, zq541, zq541, zq541, zq541, zq541, ⟨zq541, zq541, zq541, zq541, zq541⟩, (Kept.refl _ _).drew⟩
 case rest =>
 obtain ⟨⟨tb, b0, b1, b2, b3, b4, rfl, ht, hfl, hfr⟩, hk⟩ := hcut
 have d0 := (hf.out.kept hk.out).cell 0 _ rfl
 have d2 := (hf.out.kept hk.out).cell 2 _ rfl
 have d7 := (hf.out.kept hk.out).cell 7 _ rfl
 have d13 := KC _ hk.out
 have dl := Nat.lt_of_lt_of_le cl hk.out.size
 have RR := hide1 (fun (p : Nat) (hp : p < n) (us su : Bool) (W : World) (hW : Hid (Tabs W tb b0 b1 b2 b3 b4 n m)) (hl : Hid (∀ q, q < n -> ¬ Tru W b4 q)) => k_readR tb b0 b1 b2 b3 b4 n m p s hs6 (hide1 (by rw [ZR.out]; exact HN.out)) (hide1 (by rw [ZR.out]; exact HM.out)) hp us su W hW hl)
 obtain ⟨A, ab, hA⟩ : ∃ A : Nat, A < 4294967296 /\ bits .and .i64 f.satp 4194303 = (A : Int) := ⟨_, Nat.lt_of_le_of_lt Nat.and_le_right (by omega), and_any f.satp 4194303 (by omega)⟩
 have wA : IntKind.i64.wrap ((A : Int) - 524288) = (A : Int) - 524288 := zq115
 have AE : Hid (f.satp % 4194304 = (A : Int)) := hide1 (by
  obtain ⟨S, hS⟩ : ∃ S : Nat, f.satp = S := ⟨f.satp.toNat, by omega⟩
  rw [<- hA, hS]
  have h1 : bits .and .i64 (S : Int) 4194303 = ((S &&& 4194303 : Nat) : Int) := b_and S 4194303 (by omega) (by decide)
  have h2 : S &&& 4194303 = S % 4194304 := Nat.and_two_pow_sub_one_eq_mod S 22
  rw [h1, h2]; rfl)
 clear hf KC c0 c2 c7 c13 mk1 mk2 u1 u2 u3 q1 q2 q4 q5 q6 q8
 by_cases h0 : 0 <= (A : Int) - 524288
 rotate_left
 . have h0' : decide (0 <= (A : Int) - 524288) = false := by simp; omega
   go_wp2_with fail
   go_ret
   exact ⟨⟨tb, b0, b1, b2, b3, b4, rfl, ht.out, fun p hp e => by rw [AE.out] at e; omega⟩, hk.out⟩
 obtain ⟨p, hp⟩ : ∃ p : Nat, (A : Int) - 524288 = p := ⟨((A : Int) - 524288).toNat, by omega⟩
 by_cases h1 : p < n
 rotate_left
 . have h1' : decide ((p : Int) < (n : Int)) = false := by simp; omega
   go_wp2_with fail
   go_ret
   exact ⟨⟨tb, b0, b1, b2, b3, b4, rfl, ht.out, fun p' hp' e => by rw [AE.out] at e; omega⟩, hk.out⟩
 have h1' : decide ((p : Int) < (n : Int)) = true := by simp; omega
 clear h0 ab sa
 go_upto_region 5 with fail
 have nb : ¬ fb ∈ [b0, b1, b2, b3, b4] := fun h => absurd (hfr.out fb h) (by omega)
 have SS := hide1 (fun (W : World) (hW : Kept [] wc W) => (⟨(hW.cell (p := ⟨fb, 0, none⟩) dl (by simp)).trans d0, (hW.cell (p := ⟨fb, 2, none⟩) dl (by simp)).trans d2, (hW.cell (p := ⟨fb, 13, none⟩) dl (by simp)).trans d13⟩ : W.cell? ⟨fb, 0, none⟩ = some (.int .i64 f.mode) /\ W.cell? ⟨fb, 2, none⟩ = some (.int .i64 f.status) /\ W.cell? ⟨fb, 13, none⟩ = some (.string s)))
 have ST := hide1 (fun (W : World) (hW : Kept [b0, b1, b2, b3, b4] wc W) => (⟨(hW.cell (p := ⟨fb, 0, none⟩) dl nb).trans d0, (hW.cell (p := ⟨fb, 2, none⟩) dl nb).trans d2, (hW.cell (p := ⟨fb, 13, none⟩) dl nb).trans d13⟩ : W.cell? ⟨fb, 0, none⟩ = some (.int .i64 f.mode) /\ W.cell? ⟨fb, 2, none⟩ = some (.int .i64 f.status) /\ W.cell? ⟨fb, 13, none⟩ = some (.string s)))
 clear d0 d2 d13
 rcases beqC f.mode 1 with ⟨qa, qb⟩ | ⟨qa, qb⟩
 . refine wp_region_held_drew (S := fun W => W.cell? ⟨fb, 0, none⟩ = some (.int .i64 f.mode) /\ W.cell? ⟨fb, 2, none⟩ = some (.int .i64 f.status) /\ W.cell? ⟨fb, 13, none⟩ = some (.string s)) (by kernel_rfl) (SS.out _ (Kept.refl _ _).drew) (fun hHeld => ?_)
   refine tk 0 45 (.pointer (some ⟨tb, 0, none⟩)) hHeld ?_
   refine tk 1 46 (.pointer (some ⟨fb, 0, none⟩)) hHeld ?_
   refine tk 2 47 (.pointer (some ⟨fb, 0, none⟩)) hHeld ?_
   refine tk 3 48 (.pointer (some ⟨fb, 13, none⟩)) hHeld ?_
   refine tk 4 49 (.string s) hHeld ?_
   refine tk 5 50 (.int .i64 p) hHeld ?_
   refine tk 6 51 (.pointer (some ⟨fb, 0, none⟩)) hHeld ?_
   refine tk 7 52 (.pointer (some ⟨fb, 0, none⟩)) hHeld ?_
   refine tk 8 53 (.pointer (some ⟨fb, 0, none⟩)) hHeld ?_
   refine tk 9 54 (.int .i64 f.mode) hHeld ?_
   refine tk 10 55 (.bool (f.mode == 0)) hHeld ?_
   refine tk 11 56 (.pointer (some ⟨fb, 0, none⟩)) hHeld ?_
   refine tk 12 57 (.pointer (some ⟨fb, 0, none⟩)) hHeld ?_
   refine tk 13 58 (.pointer (some ⟨fb, 0, none⟩)) hHeld ?_
   refine tk 14 59 (.int .i64 f.mode) hHeld ?_
   refine tk 15 60 (.bool true) hHeld ?_
   refine tk 16 61 (.bool true) hHeld ?_
   refine tk 17 62 (.pointer (some ⟨fb, 0, none⟩)) hHeld ?_
   refine tk 18 63 (.pointer (some ⟨fb, 0, none⟩)) hHeld ?_
   refine tk 19 64 (.pointer (some ⟨fb, 2, none⟩)) hHeld ?_
   refine tk 20 65 (.int .i64 f.status) hHeld ?_
   refine tk 21 66 (.int .i64 (f.status / 262144)) hHeld ?_
   refine tk 22 67 (.int .i64 (bits .and .i64 (f.status / 262144) 1)) hHeld ?_
   refine tk 23 68 (.bool (bits .and .i64 (f.status / 262144) 1 == 1)) hHeld ?_
   refine tk 24 69 (.bool (bits .and .i64 (f.status / 262144) 1 == 1)) hHeld ?_
   exact zq433
 . refine wp_region_held_drew (S := fun W => W.cell? ⟨fb, 0, none⟩ = some (.int .i64 f.mode) /\ W.cell? ⟨fb, 2, none⟩ = some (.int .i64 f.status) /\ W.cell? ⟨fb, 13, none⟩ = some (.string s)) (by kernel_rfl) (SS.out _ (Kept.refl _ _).drew) (fun hHeld => ?_)
   refine tk 0 45 (.pointer (some ⟨tb, 0, none⟩)) hHeld ?_
   refine tk 1 46 (.pointer (some ⟨fb, 0, none⟩)) hHeld ?_
   refine tk 2 47 (.pointer (some ⟨fb, 0, none⟩)) hHeld ?_
   refine tk 3 48 (.pointer (some ⟨fb, 13, none⟩)) hHeld ?_
   refine tk 4 49 (.string s) hHeld ?_
   refine tk 5 50 (.int .i64 p) hHeld ?_
   refine tk 6 51 (.pointer (some ⟨fb, 0, none⟩)) hHeld ?_
   refine tk 7 52 (.pointer (some ⟨fb, 0, none⟩)) hHeld ?_
   refine tk 8 53 (.pointer (some ⟨fb, 0, none⟩)) hHeld ?_
   refine tk 9 54 (.int .i64 f.mode) hHeld ?_
   refine tk 10 55 (.bool (f.mode == 0)) hHeld ?_
   refine tk 11 56 (.pointer (some ⟨fb, 0, none⟩)) hHeld ?_
   refine tk 12 57 (.pointer (some ⟨fb, 0, none⟩)) hHeld ?_
   refine tk 13 58 (.pointer (some ⟨fb, 0, none⟩)) hHeld ?_
   refine tk 14 59 (.int .i64 f.mode) hHeld ?_
   refine tk 15 60 (.bool false) hHeld ?_
   refine tk 16 61 (.bool false) hHeld ?_
   refine tk 17 62 undef hHeld ?_ (hy := Or.inr ⟨by kernel_rfl, rfl⟩)
   refine tk 18 63 undef hHeld ?_ (hy := Or.inr ⟨by kernel_rfl, rfl⟩)
   refine tk 19 64 undef hHeld ?_ (hy := Or.inr ⟨by kernel_rfl, rfl⟩)
   refine tk 20 65 undef hHeld ?_ (hy := Or.inr ⟨by kernel_rfl, rfl⟩)
   refine tk 21 66 undef hHeld ?_ (hy := Or.inr ⟨by kernel_rfl, rfl⟩)
   refine tk 22 67 undef hHeld ?_ (hy := Or.inr ⟨by kernel_rfl, rfl⟩)
   refine tk 23 68 undef hHeld ?_ (hy := Or.inr ⟨by kernel_rfl, rfl⟩)
   refine tk 24 69 (.bool false) hHeld ?_
   exact zq433
end
section
variable {T A W F : Nat -> Prop} {C : CsrS} {B : BusS}
def ADs (a b : UInt8) : Prop := b.toNat = a.toNat ||| (b.toNat &&& 192)
structure Fr (W F : Nat -> Prop) (r r' : List UInt8) : Prop where
 len : r'.length = r.length
 b : ∀ i, i < r.length -> W ((i + 2147483648) / 4096) \/ r'.getD i 0 = r.getD i 0 \/ (i % 4 = 0 /\ F (i + 2147483648) /\ ADs (r.getD i 0) (r'.getD i 0))
theorem Fr.refl (W F : Nat -> Prop) (r : List UInt8) : Fr W F r r := ⟨rfl, fun _ _ => .inr (.inl rfl)⟩
theorem ads_trans {a b c : UInt8} (h1 : ADs a b) (h2 : ADs b c) : ADs a c := by
 unfold ADs at *
 apply Nat.eq_of_testBit_eq
 intro i
 have e1 := congrArg (fun x => Nat.testBit x i) h1
 have e2 := congrArg (fun x => Nat.testBit x i) h2
 simp only [Nat.testBit_or, Nat.testBit_and] at e1 e2 |-
 have all : ∀ a b c m : Bool, b = (a || (b && m)) -> c = (b || (c && m)) -> c = (a || (c && m)) := by decide
 exact all _ _ _ _ e1 e2
theorem Fr.trans {W F : Nat -> Prop} {r r' r'' : List UInt8} (h1 : Fr W F r r') (h2 : Fr W F r' r'') : Fr W F r r'' := by
 refine ⟨h2.len.trans h1.len, fun i hi => ?_⟩
 rcases h1.b i hi with a | a | a
 . exact .inl a
 . rcases h2.b i (by rw [h1.len]; exact hi) with q | q | q
   . exact .inl q
   . exact .inr (.inl (q.trans a))
   . rw [a] at q; exact .inr (.inr q)
 . rcases h2.b i (by rw [h1.len]; exact hi) with q | q | q
   . exact .inl q
   . rw [q]; exact .inr (.inr a)
   . exact .inr (.inr ⟨a.1, a.2.1, ads_trans a.2.2 q.2.2⟩)
def adC (a d : Nat) : Bool := (a + d == (a ||| (a + d &&& 192))) && Nat.blt (a + d) 256
theorem ad_all : ((List.range 256).all fun a => (!(a / 64 % 2 == 0) || adC a 64) && (!(a / 128 % 2 == 0) || adC a 128) && (!(a / 64 % 2 == 0 && a / 128 % 2 == 0) || adC a 192)) = true := by decide +kernel
theorem adC_of {a d : Nat} (h : adC a d = true) : a + d = a ||| (a + d &&& 192) /\ a + d < 256 := by
 unfold adC at h
 rw [Bool.and_eq_true] at h
 exact ⟨by simpa using h.1, by have := h.2; unfold Nat.blt at this; exact Nat.le_of_ble_eq_true this⟩
theorem ad_byte (a : Nat) (ha : a < 256) : (a / 64 % 2 = 0 -> a + 64 = a ||| (a + 64 &&& 192) /\ a + 64 < 256) /\ (a / 128 % 2 = 0 -> a + 128 = a ||| (a + 128 &&& 192) /\ a + 128 < 256) /\ (a / 64 % 2 = 0 -> a / 128 % 2 = 0 -> a + 192 = a ||| (a + 192 &&& 192) /\ a + 192 < 256) := by
 have h := List.all_eq_true.1 ad_all a (List.mem_range.2 ha)
 simp only [Bool.and_eq_true, Bool.or_eq_true, Bool.not_eq_true', beq_eq_false_iff_ne, Bool.and_eq_false_iff] at h
 refine ⟨fun h6 => adC_of (h.1.1.resolve_left (fun q => q h6)), fun h7 => adC_of (h.1.2.resolve_left (fun q => q h7)), fun h6 h7 => adC_of (h.2.resolve_left (fun q => q.elim (fun q => q h6) (fun q => q h7)))⟩
theorem getD_st (n : Nat) (r : List UInt8) (p v j : Nat) (h : p + n <= r.length) : (stN r p n v).getD j 0 = if p <= j /\ j < p + n then UInt8.ofNat (v / 256 ^ (j - p)) else r.getD j 0 := by
 rw [List.getD_eq_getElem?_getD, st_get n r p v j h, List.getD_eq_getElem?_getD]
 split <;> rfl
theorem fr_mkP (W F : Nat -> Prop) (r : List UInt8) (p e k : Nat) (hF : F (p + 2147483648)) (al : p % 4 = 0) (hl : p + 4 <= r.length) (he : ldN ((r.drop p).take 4) = e) : Fr W F r (stN r p 4 (e + adB (bitN e 6) (bitN e 7) k)) := by
 refine ⟨stN_length _ _ _ _, fun i hi => ?_⟩
 rw [getD_st 4 _ _ _ _ hl]
 split
 . next hp =>
   have e0 : e = (r.getD p 0).toNat + 256 * ((r.getD (p + 1) 0).toNat + 256 * ((r.getD (p + 2) 0).toNat + 256 * (r.getD (p + 3) 0).toNat)) := by
    rw [<- he]
    refine ld_of _ _ _ _ _ ?_
    apply List.ext_getElem?
    intro j
    rw [List.getElem?_take]
    by_cases hj : j < 4
    . rw [if_pos hj, List.getElem?_drop, List.getElem?_eq_getElem (by omega)]
      have : j = 0 \/ j = 1 \/ j = 2 \/ j = 3 := by omega
      rcases this with rfl | rfl | rfl | rfl <;> simp [List.getD_eq_getElem?_getD, List.getElem?_eq_getElem (show p < r.length by omega), List.getElem?_eq_getElem (show p + 1 < r.length by omega), List.getElem?_eq_getElem (show p + 2 < r.length by omega), List.getElem?_eq_getElem (show p + 3 < r.length by omega)]
    . rw [if_neg hj, List.getElem?_eq_none (by simp; omega)]
   clear he
   obtain ⟨d, hd⟩ := zn1 (adB (bitN e 6) (bitN e 7) k)
   rw [<- hd]
   have hd' : d = 0 \/ (d = 64 /\ e / 64 % 2 = 0) \/ (d = 128 /\ e / 128 % 2 = 0) \/ (d = 192 /\ e / 64 % 2 = 0 /\ e / 128 % 2 = 0) := by
    rw [hd]
    unfold adB bitN
    by_cases h6 : e / 64 % 2 = 1 <;> by_cases h7 : e / 128 % 2 = 1 <;> by_cases hk : k = 2 <;> simp [h6, h7, hk] <;> omega
   clear hd
   have b0 := (r.getD p 0).toNat_lt
   have b1 := (r.getD (p + 1) 0).toNat_lt
   have b2 := (r.getD (p + 2) 0).toNat_lt
   have b3 := (r.getD (p + 3) 0).toNat_lt
   have ab := ad_byte _ b0
   by_cases hj : i = p
   . subst hj
     right; right
     refine ⟨al, hF, ?_⟩
     unfold ADs
     rw [Nat.sub_self, Nat.pow_zero, Nat.div_one, u8n]
     generalize (r.getD i 0).toNat = x at *
     rcases hd' with h | h | h | h
     . have : (e + d) % 256 = x := by omega
       rw [this]
       apply Nat.eq_of_testBit_eq
       intro t
       rw [Nat.testBit_or, Nat.testBit_and]
       cases x.testBit t <;> simp
     . have := ab.1 (by omega)
       have e2 : (e + d) % 256 = x + 64 := by omega
       rw [e2]; exact this.1
     . have := ab.2.1 (by omega)
       have e2 : (e + d) % 256 = x + 128 := by omega
       rw [e2]; exact this.1
     . have := ab.2.2 (by omega) (by omega)
       have e2 : (e + d) % 256 = x + 192 := by omega
       rw [e2]; exact this.1
   . right; left
     apply UInt8.toNat_inj.1
     rw [u8n]
     have hi3 : i = p + 1 \/ i = p + 2 \/ i = p + 3 := by omega
     have hx : (r.getD p 0).toNat + d < 256 := by
      rcases hd' with h | h | h | h
      . omega
      . have := (ab.1 (by omega)).2; omega
      . have := (ab.2.1 (by omega)).2; omega
      . have := (ab.2.2 (by omega) (by omega)).2; omega
     clear ab hd'
     generalize (r.getD p 0).toNat = x at *
     rcases hi3 with rfl | rfl | rfl
     . rw [show p + 1 - p = 1 by omega, Nat.pow_one]
       generalize (r.getD (p + 1) 0).toNat = y at *
       omega
     . rw [show p + 2 - p = 2 by omega, show 256 ^ 2 = 65536 from rfl]
       generalize (r.getD (p + 2) 0).toNat = y at *
       omega
     . rw [show p + 3 - p = 3 by omega, show 256 ^ 3 = 16777216 from rfl]
       generalize (r.getD (p + 3) 0).toNat = y at *
       omega
 . exact .inr (.inl rfl)
theorem fr_mk (W F : Nat -> Prop) (B : BusS) (a k : Nat) (hF : F a) (al : a % 4 = 0) (hh : holdsD (a : Nat) 4 B.ram.length = true) : Fr W F B.ram (mkA B a k).ram := by
 have q := holdsD_at hh
 unfold mkA
 split
 . exact Fr.refl _ _ _
 . dsimp only
   unfold entE rdRam
   obtain ⟨p, hp⟩ := zn2 (a - 2147483648)
   rw [hp] at q |-
   exact fr_mkP W F B.ram p _ k (by rw [<- hp, Nat.sub_add_cancel q.1]; exact hF) (by omega) q.2 rfl
theorem fr_st (W F : Nat -> Prop) (r : List UInt8) (pa n v : Nat) (h1 : 2147483648 <= pa) (h2 : pa - 2147483648 + n <= r.length) (hi : pa % 4096 + n <= 4096) (hW : W (pa / 4096)) : Fr W F r (stN r (pa - 2147483648) n v) := by
 refine ⟨stN_length _ _ _ _, fun i hi' => ?_⟩
 rw [getD_st n _ _ _ _ h2]
 split
 . next hp =>
   left
   rw [show (i + 2147483648) / 4096 = pa / 4096 by omega]; exact hW
 . exact .inr (.inl rfl)
structure Wal (T A W F : Nat -> Prop) (C : CsrS) (B : BusS) : Prop where
 clo : Clo T A W F C B
 pg : Pgd C
variable {T A W F : Nat -> Prop} {C : CsrS} {B : BusS}
theorem Wal.wtr (h : Wal T A W F C B) (va k : Nat) : Wal T A W F C (trD B C va k).2 /\ Fr W F B.ram (trD B C va k).2.ram /\ ((trD B C va k).1.2 = 0 -> (k = 2 -> W ((trD B C va k).1.1 / 4096)) /\ (trD B C va k).1.1 % 4096 = va % 4096) := by
 have q := tr_ok' h.clo h.pg va k
 refine ⟨⟨q.clo, h.pg⟩, ?_, fun e => (q.pg e).2⟩
 rcases q.mkd with e | ⟨a, a1, a2, a3, a4, e⟩
 . rw [e]; exact Fr.refl _ _ _
 . rw [e]; exact fr_mk W F B a k a1 a3 a4
theorem Wal.whf (h : Wal T A W F C B) (va : Nat) : Wal T A W F C (halfD B C va).2 /\ Fr W F B.ram (halfD B C va).2.ram := by
 obtain ⟨a, b, _⟩ := h.wtr va 0
 unfold halfD halfP
 repeat' split
 all_goals exact ⟨a, b⟩
theorem Wal.wfe (h : Wal T A W F C B) (pc : Nat) : Wal T A W F C (fetchD B C pc).2 /\ Fr W F B.ram (fetchD B C pc).2.ram := by
 obtain ⟨a1, b1⟩ := h.whf pc
 obtain ⟨a2, b2⟩ := a1.whf ((pc + 2) % 4294967296)
 unfold fetchD
 split
 . split
   . split
     . exact ⟨a2, b1.trans b2⟩
     . exact ⟨a2, b1.trans b2⟩
   . exact ⟨a1, b1⟩
 . exact ⟨a1, b1⟩
structure Pow (W : Nat -> Prop) (pa n : Nat) : Prop where
 w : W (pa / 4096)
 in' : pa % 4096 + n <= 4096
theorem Wal.wre (h : Wal T A W F C B) (va n k : Nat) (hn : n <= 4) (hn1 : 1 <= n) : Fr W F B.ram (reachD B C va n k).2.ram /\ (k = 2 -> (reachD B C va n k).1.fault = 0 -> Pow W (reachD B C va n k).1.pa1 (reachD B C va n k).1.n1 /\ (0 < (reachD B C va n k).1.n2 -> Pow W (reachD B C va n k).1.pa2 (reachD B C va n k).1.n2)) := by
 obtain ⟨s1, f1, p1⟩ := h.wtr va k
 obtain ⟨s2, f2, p2⟩ := s1.wtr ((va + roomD va n) % 4294967296) k
 have r1 : roomD va n <= 4096 - va % 4096 /\ roomD va n <= n /\ (roomD va n < n -> roomD va n = 4096 - va % 4096) := zq6
 unfold reachD
 obtain ⟨r, hr⟩ := zn1 (roomD va n)
 rw [<- hr] at r1 s2 f2 p2 |-
 obtain ⟨t, ht⟩ := zn1 (trD B C va k)
 rw [<- ht] at s1 f1 p1 s2 f2 p2 |-
 unfold reach1
 obtain ⟨u, hu⟩ := zn1 (trD t.2 C ((va + r) % 4294967296) k)
 rw [<- hu] at s2 f2 p2 |-
 split
 . next h0 =>
   have q1 := p1 h0
   split
   . split
     . next hlt =>
       unfold reach2
       split
       . next h2 =>
         have q2 := p2 h2
         split
         . exact ⟨f1.trans f2, fun hk _ => ⟨⟨q1.1 hk, by dsimp only; omega⟩, fun _ => ⟨q2.1 hk, by dsimp only; omega⟩⟩⟩
         . exact ⟨f1.trans f2, fun _ f => absurd f zq540⟩
       . next h2 => exact ⟨f1.trans f2, fun _ f => absurd f h2⟩
     . exact ⟨f1, fun hk _ => ⟨⟨q1.1 hk, by dsimp only; omega⟩, fun f => absurd f zq540⟩⟩
   . exact ⟨f1, fun _ f => absurd f zq540⟩
 . next h0 => exact ⟨f1, fun _ f => absurd f h0⟩
theorem read_ram (B : BusS) (pa n : Int) : (readD B pa n).2.ram = B.ram := by
 unfold readD
 split
 . rfl
 . split
   . exact readV_ram _ _
   . rfl
theorem load_ram (B : BusS) (s : Spn) : (loadD B s).2.ram = B.ram := by
 unfold loadD
 split
 . dsimp only; rw [read_ram, read_ram]
 . exact read_ram _ _ _
theorem Pow.wr8 {pa n : Nat} (h : Pow W pa n) (B : BusS) (x : Nat) : Fr W F B.ram (writeD B pa n x).ram := by
 unfold writeD
 split
 . next hh =>
   have := holds_at hh
   have e2 : ((pa : Int) - 2147483648).toNat = pa - 2147483648 := by omega
   have e3 : ((n : Nat) : Int).toNat = n := Int.toNat_natCast n
   dsimp only
   rw [e2, e3]
   exact fr_st W F B.ram pa n x this.1 this.2.1 h.in' h.w
 . split
   . rw [writeV_ram]; exact Fr.refl _ _ _
   . exact Fr.refl _ _ _
theorem fr_store (B : BusS) (s : Spn) (x : Nat) (h1 : Pow W s.pa1 s.n1) (h2 : 0 < s.n2 -> Pow W s.pa2 s.n2) : Fr W F B.ram (storeD B s x).ram := by
 unfold storeD
 split
 . next h => exact (h1.wr8 B x).trans ((h2 h).wr8 _ _)
 . exact h1.wr8 B x
end
end Go.Proofs.YtmlgonbhoknoiabGreatDoor
