import Derived.Test.YtmlgonbhoknoiabGreatDoorWAO
set_option maxHeartbeats 8000000
set_option linter.all false
namespace Go.Proofs.YtmlgonbhoknoiabGreatDoor
open Go.RowKit Go.Proofs.Tryz
section
attribute [local go_sem ↓] Go.wp_at_zero Go.wp_at_succ
structure Fc where
 mode : Int
 pc : Int
 status : Int
 ie : Int
 ip : Int
 mideleg : Int
 medeleg : Int
 satp : Int
 inhibit : Int
 cycle : Int
 cycleh : Int
 ret : Int
 reth : Int
 ram : ByteArray
 regs : ByteArray
def Fc.l (f : Fc) : List Value := [.int .i64 f.mode, .int .i64 f.pc, .int .i64 f.status, .int .i64 f.ie, .int .i64 f.ip, .int .i64 f.mideleg, .int .i64 f.medeleg, .int .i64 f.satp, .int .i64 f.inhibit, .int .i64 f.cycle, .int .i64 f.cycleh, .int .i64 f.ret, .int .i64 f.reth, .string f.ram, .string f.regs]
structure FcOk (f : Fc) (z : Nat) : Prop where
 mode : 0 <= f.mode /\ f.mode < 4294967296
 pc : 0 <= f.pc /\ f.pc < 4294967296
 status : 0 <= f.status /\ f.status < 4294967296
 ie : 0 <= f.ie /\ f.ie < 4294967296
 ip : 0 <= f.ip /\ f.ip < 4294967296
 mideleg : 0 <= f.mideleg /\ f.mideleg < 4294967296
 medeleg : 0 <= f.medeleg /\ f.medeleg < 4294967296
 satp : 0 <= f.satp /\ f.satp < 4294967296
 inhibit : 0 <= f.inhibit /\ f.inhibit < 4294967296
 cycle : 0 <= f.cycle /\ f.cycle < 4294967296
 cycleh : 0 <= f.cycleh /\ f.cycleh < 4294967296
 ret : 0 <= f.ret /\ f.ret < 4294967296
 reth : 0 <= f.reth /\ f.reth < 4294967296
 ram : f.ram.size = z
 regs : f.regs.size = 128
theorem Mz.set {w : World} {mb rb z : Nat} (h : Mz w mb rb z) (b k : Nat) (v : Value) (h1 : mb ≠ b) (h2 : rb ≠ b) : Mz (w.setCell ⟨b, k, none⟩ v) mb rb z := h.more ((Kept.refl [b] _).setCell (.inl (by simp)) v) (by simpa using h1) (by simpa using h2)
theorem BoxF.set {w : World} {b : Nat} {cs : List Value} (h : BoxF w b cs) (k : Nat) (v : Value) (hk : k < cs.length) : BoxF (w.setCell ⟨b, k, none⟩ v) b (cs.set k v) := by
 refine ⟨fun j x hx => ?_, fun o => by rw [World.frozen?_setCell]; exact h.fro o, Nat.lt_of_lt_of_le h.lt ((Kept.refl [b] w).setCell (.inl (by simp)) v).size⟩
 by_cases hj : k = j
 . subst hj
   rw [List.getElem?_set_self hk] at hx
   have e : x = v := (Option.some.inj hx).symm
   rw [e]
   exact World.cell?_setCell_same _ _ _ (h.cell k _ (List.getElem?_eq_getElem hk))
 . rw [List.getElem?_set_ne hj] at hx
   rw [World.cell?_setCell_other _ _ _ _ (by first | (simp; done) | (simp; omega))]
   exact h.cell j x hx
structure FcX (X : XS) (f : Fc) : Prop where
 mode : f.mode = (X.mode : Nat)
 pc : f.pc = (X.pc : Nat)
 status : f.status = ((xcsrE X 768).1 : Nat)
 ie : f.ie = ((xcsrE X 772).1 : Nat)
 ip : f.ip = ((xcsrE X 836).1 : Nat)
 mideleg : f.mideleg = ((xcsrE X 771).1 : Nat)
 medeleg : f.medeleg = ((xcsrE X 770).1 : Nat)
 satp : f.satp = ((xcsrE X 384).1 : Nat)
 inhibit : f.inhibit = ((xcsrE X 800).1 : Nat)
 cycle : f.cycle = ((xcsrE X 2816).1 : Nat)
 cycleh : f.cycleh = ((xcsrE X 2944).1 : Nat)
 ret : f.ret = ((xcsrE X 2818).1 : Nat)
 reth : f.reth = ((xcsrE X 2946).1 : Nat)
 ram : f.ram = pkB X.b.ram 0 X.b.ram.length
 regs : f.regs = (showX X).extract 4 132
theorem show_size {X : XS} (h : XOk X) : 200 <= (showX X).size /\ (showX X).size <= 300 := by
 have q1 := h.b.rx
 have q2 := h.b.tx
 unfold showX
 rw [ByteArray.size_append, ByteArray.size_append, ByteArray.size_append, hartS_size, csrS_size, timerS_size, portS_size]
 omega
theorem FcX.ok {X : XS} {f : Fc} {z : Nat} (h : FcX X f) (hX : XInv X) (hz : X.b.ram.length = z) : FcOk f z := by
 have e := fun n => rcs_lt X hX.ok n
 have e' : ∀ n, (xcsrE X n).1 < 4294967296 := by
  intro n
  have := e n
  unfold xcsrE
  split
  . exact this
  . decide
 have m := hX.ok.mode
 have p := hX.ok.pc
 have sz := show_size hX.ok
 refine ⟨by rw [h.mode]; omega, by rw [h.pc]; omega, by rw [h.status]; have := e' 768; omega, by rw [h.ie]; have := e' 772; omega, by rw [h.ip]; have := e' 836; omega, by rw [h.mideleg]; have := e' 771; omega, by rw [h.medeleg]; have := e' 770; omega, by rw [h.satp]; have := e' 384; omega, by rw [h.inhibit]; have := e' 800; omega, by rw [h.cycle]; have := e' 2816; omega, by rw [h.cycleh]; have := e' 2944; omega, by rw [h.ret]; have := e' 2818; omega, by rw [h.reth]; have := e' 2946; omega, by rw [h.ram, pkB_size _ _ _ (by omega)]; exact hz, by rw [h.regs, ByteArray.size_extract]; omega⟩
set_option maxRecDepth 100000 in
theorem k_lookV (mb rb : Nat) (X : XS) (hX : XInv X) (w) (hw : Hid (XAt w mb rb X)) : Calls prog 52 #[.pointer (some ⟨mb, 0, none⟩)] w fun o w' => (∃ f : Fc, FcX X f /\ o = .returned (.pointer (some ⟨w.heap.size, 0, none⟩)) /\ BoxF w' w.heap.size f.l) /\ Kept [] w w' := by
 have l0 : mb < w.heap.size /\ rb < w.heap.size := ⟨hw.out.lt, hw.out.rlt⟩
 have hO := hX.ok
 have zs := show_size hO
 have B0 := hide1 (BoxF.new w [.int .i64 0, .int .i64 0, .int .i64 0, .int .i64 0, .int .i64 0, .int .i64 0, .int .i64 0, .int .i64 0, .int .i64 0, .int .i64 0, .int .i64 0, .int .i64 0, .int .i64 0, .string ⟨#[]⟩, .string ⟨#[]⟩] 97)
 have K0 : Hid (Kept [] w (w.alloc (.cells #[.int .i64 0, .int .i64 0, .int .i64 0, .int .i64 0, .int .i64 0, .int .i64 0, .int .i64 0, .int .i64 0, .int .i64 0, .int .i64 0, .int .i64 0, .int .i64 0, .int .i64 0, .string ⟨#[]⟩, .string ⟨#[]⟩] 97))) := hide1 ((Kept.refl _ _).alloc _)
 have M0 := hide1 (hw.out.kept K0.out)
 have n1 : mb ≠ w.heap.size := by omega
 have n2 : rb ≠ w.heap.size := by omega
 obtain ⟨W0, hW0⟩ := zn1 (w.alloc (.cells #[.int .i64 0, .int .i64 0, .int .i64 0, .int .i64 0, .int .i64 0, .int .i64 0, .int .i64 0, .int .i64 0, .int .i64 0, .int .i64 0, .int .i64 0, .int .i64 0, .int .i64 0, .string ⟨#[]⟩, .string ⟨#[]⟩] 97))
 rw [<- hW0] at B0 K0 M0
 have ST := hide1 (fun (W : World) (k : Nat) (v : Value) (h : XAt W mb rb X) => (h.more ((Kept.refl [w.heap.size] _).setCell (.inl (by simp)) v) (by simpa using n1) (by simpa using n2) : XAt (W.setCell ⟨w.heap.size, k, none⟩ v) mb rb X))
 obtain ⟨v2, e2⟩ := zn2 ((xcsrE X 768).1 : Nat)
 have C2 := hide1 (fun W (hW : Hid (XAt W mb rb X)) => k_csrV mb rb X hO 768 v2 e2 W hW)
 obtain ⟨v3, e3⟩ := zn2 ((xcsrE X 772).1 : Nat)
 have C3 := hide1 (fun W (hW : Hid (XAt W mb rb X)) => k_csrV mb rb X hO 772 v3 e3 W hW)
 obtain ⟨v4, e4⟩ := zn2 ((xcsrE X 836).1 : Nat)
 have C4 := hide1 (fun W (hW : Hid (XAt W mb rb X)) => k_csrV mb rb X hO 836 v4 e4 W hW)
 obtain ⟨v5, e5⟩ := zn2 ((xcsrE X 771).1 : Nat)
 have C5 := hide1 (fun W (hW : Hid (XAt W mb rb X)) => k_csrV mb rb X hO 771 v5 e5 W hW)
 obtain ⟨v6, e6⟩ := zn2 ((xcsrE X 770).1 : Nat)
 have C6 := hide1 (fun W (hW : Hid (XAt W mb rb X)) => k_csrV mb rb X hO 770 v6 e6 W hW)
 obtain ⟨v7, e7⟩ := zn2 ((xcsrE X 384).1 : Nat)
 have C7 := hide1 (fun W (hW : Hid (XAt W mb rb X)) => k_csrV mb rb X hO 384 v7 e7 W hW)
 obtain ⟨v8, e8⟩ := zn2 ((xcsrE X 800).1 : Nat)
 have C8 := hide1 (fun W (hW : Hid (XAt W mb rb X)) => k_csrV mb rb X hO 800 v8 e8 W hW)
 obtain ⟨v9, e9⟩ := zn2 ((xcsrE X 2816).1 : Nat)
 have C9 := hide1 (fun W (hW : Hid (XAt W mb rb X)) => k_csrV mb rb X hO 2816 v9 e9 W hW)
 obtain ⟨v10, e10⟩ := zn2 ((xcsrE X 2944).1 : Nat)
 have C10 := hide1 (fun W (hW : Hid (XAt W mb rb X)) => k_csrV mb rb X hO 2944 v10 e10 W hW)
 obtain ⟨v11, e11⟩ := zn2 ((xcsrE X 2818).1 : Nat)
 have C11 := hide1 (fun W (hW : Hid (XAt W mb rb X)) => k_csrV mb rb X hO 2818 v11 e11 W hW)
 obtain ⟨v12, e12⟩ := zn2 ((xcsrE X 2946).1 : Nat)
 have C12 := hide1 (fun W (hW : Hid (XAt W mb rb X)) => k_csrV mb rb X hO 2946 v12 e12 W hW)
 have C0 := hide1 (fun W (hW : Hid (XAt W mb rb X)) => x_Mode mb rb X W hW)
 have C1 := hide1 (fun W (hW : Hid (XAt W mb rb X)) => x_Pc mb rb X W hW)
 obtain ⟨r, er⟩ := zn2 (pkB X.b.ram 0 X.b.ram.length)
 have CR := hide1 (fun W (hW : Hid (XAt W mb rb X)) => k_ramV mb rb X hO r er W hW)
 have SH := hide1 (fun W (hW : Hid (XAt W mb rb X)) => x_Show mb rb X hO W hW)
 obtain ⟨t, et⟩ := zn2 (showX X)
 obtain ⟨v0, e0⟩ := zn2 (X.mode : Nat)
 obtain ⟨v1, e1⟩ := zn2 (X.pc : Nat)
 rw [et] at SH zs
 rw [e0] at C0
 rw [e1] at C1
 have FX : Hid (∀ x, x = t.extract 4 132 -> FcX X ⟨v0, v1, v2, v3, v4, v5, v6, v7, v8, v9, v10, v11, v12, r, x⟩) := hide1 (fun x hx => ⟨by rw [e0], by rw [e1], by rw [e2], by rw [e3], by rw [e4], by rw [e5], by rw [e6], by rw [e7], by rw [e8], by rw [e9], by rw [e10], by rw [e11], by rw [e12], er.symm, by rw [et]; exact hx⟩)
 clear hw er et hO hX e0 e1 e2 e3 e4 e5 e6 e7 e8 e9 e10 e11 e12
 go_enter func52, ntmps52
 have lb0 := B0.out.lt
 have bf0 := B0.out.fro
 have bc0 := B0.out.cell 0 _ rfl
 go_wp2_with fail
 rw [<- hW0]
 clear hW0
 refine (C0.out _ M0).mono ?_
 rintro o w1 ⟨rfl, rfl⟩
 have B1 := hide1 ((B0.out.kept (Kept.refl [] _)).set 0 (.int .i64 v0) (by simp))
 have M1 := hide1 (ST.out _ 0 (.int .i64 v0) (M0.out.kept (Kept.refl [] _)))
 have K1 := hide1 ((K0.out.trans (Kept.refl [] _)).setCell (p := ⟨w.heap.size, 0, none⟩) (.inr (Nat.le_refl _)) (.int .i64 v0))
 have lt0 := (B0.out.kept (Kept.refl [] _)).lt
 have fr0 := (B0.out.kept (Kept.refl [] _)).fro
 have ce0 := (B0.out.kept (Kept.refl [] _)).cell 0 _ rfl
 clear B0 M0 K0 lb0 bf0 bc0 C0
 have lb1 := B1.out.lt
 have bf1 := B1.out.fro
 have bc1 := B1.out.cell 1 _ rfl
 go_wp2_with fail
 refine (C1.out _ M1).mono ?_
 rintro o w2 ⟨rfl, rfl⟩
 have B2 := hide1 ((B1.out.kept (Kept.refl [] _)).set 1 (.int .i64 v1) (by simp))
 have M2 := hide1 (ST.out _ 1 (.int .i64 v1) (M1.out.kept (Kept.refl [] _)))
 have K2 := hide1 ((K1.out.trans (Kept.refl [] _)).setCell (p := ⟨w.heap.size, 1, none⟩) (.inr (Nat.le_refl _)) (.int .i64 v1))
 have lt1 := (B1.out.kept (Kept.refl [] _)).lt
 have fr1 := (B1.out.kept (Kept.refl [] _)).fro
 have ce1 := (B1.out.kept (Kept.refl [] _)).cell 1 _ rfl
 clear B1 M1 K1 lb1 bf1 bc1 C1
 have lb2 := B2.out.lt
 have bf2 := B2.out.fro
 have bc2 := B2.out.cell 2 _ rfl
 go_wp2_with fail
 refine (C2.out _ M2).mono ?_
 rintro o w3 ⟨rfl, hk⟩
 have B3 := hide1 ((B2.out.kept hk).set 2 (.int .i64 v2) (by simp))
 have M3 := hide1 (ST.out _ 2 (.int .i64 v2) (M2.out.kept hk))
 have K3 := hide1 ((K2.out.trans hk).setCell (p := ⟨w.heap.size, 2, none⟩) (.inr (Nat.le_refl _)) (.int .i64 v2))
 have lt2 := (B2.out.kept hk).lt
 have fr2 := (B2.out.kept hk).fro
 have ce2 := (B2.out.kept hk).cell 2 _ rfl
 clear B2 M2 K2 lb2 bf2 bc2 C2 hk
 have lb3 := B3.out.lt
 have bf3 := B3.out.fro
 have bc3 := B3.out.cell 3 _ rfl
 go_wp2_with fail
 refine (C3.out _ M3).mono ?_
 rintro o w4 ⟨rfl, hk⟩
 have B4 := hide1 ((B3.out.kept hk).set 3 (.int .i64 v3) (by simp))
 have M4 := hide1 (ST.out _ 3 (.int .i64 v3) (M3.out.kept hk))
 have K4 := hide1 ((K3.out.trans hk).setCell (p := ⟨w.heap.size, 3, none⟩) (.inr (Nat.le_refl _)) (.int .i64 v3))
 have lt3 := (B3.out.kept hk).lt
 have fr3 := (B3.out.kept hk).fro
 have ce3 := (B3.out.kept hk).cell 3 _ rfl
 clear B3 M3 K3 lb3 bf3 bc3 C3 hk
 have lb4 := B4.out.lt
 have bf4 := B4.out.fro
 have bc4 := B4.out.cell 4 _ rfl
 go_wp2_with fail
 refine (C4.out _ M4).mono ?_
 rintro o w5 ⟨rfl, hk⟩
 have B5 := hide1 ((B4.out.kept hk).set 4 (.int .i64 v4) (by simp))
 have M5 := hide1 (ST.out _ 4 (.int .i64 v4) (M4.out.kept hk))
 have K5 := hide1 ((K4.out.trans hk).setCell (p := ⟨w.heap.size, 4, none⟩) (.inr (Nat.le_refl _)) (.int .i64 v4))
 have lt4 := (B4.out.kept hk).lt
 have fr4 := (B4.out.kept hk).fro
 have ce4 := (B4.out.kept hk).cell 4 _ rfl
 clear B4 M4 K4 lb4 bf4 bc4 C4 hk
 have lb5 := B5.out.lt
 have bf5 := B5.out.fro
 have bc5 := B5.out.cell 5 _ rfl
 go_wp2_with fail
 refine (C5.out _ M5).mono ?_
 rintro o w6 ⟨rfl, hk⟩
 have B6 := hide1 ((B5.out.kept hk).set 5 (.int .i64 v5) (by simp))
 have M6 := hide1 (ST.out _ 5 (.int .i64 v5) (M5.out.kept hk))
 have K6 := hide1 ((K5.out.trans hk).setCell (p := ⟨w.heap.size, 5, none⟩) (.inr (Nat.le_refl _)) (.int .i64 v5))
 have lt5 := (B5.out.kept hk).lt
 have fr5 := (B5.out.kept hk).fro
 have ce5 := (B5.out.kept hk).cell 5 _ rfl
 clear B5 M5 K5 lb5 bf5 bc5 C5 hk
 have lb6 := B6.out.lt
 have bf6 := B6.out.fro
 have bc6 := B6.out.cell 6 _ rfl
 go_wp2_with fail
 refine (C6.out _ M6).mono ?_
 rintro o w7 ⟨rfl, hk⟩
 have B7 := hide1 ((B6.out.kept hk).set 6 (.int .i64 v6) (by simp))
 have M7 := hide1 (ST.out _ 6 (.int .i64 v6) (M6.out.kept hk))
 have K7 := hide1 ((K6.out.trans hk).setCell (p := ⟨w.heap.size, 6, none⟩) (.inr (Nat.le_refl _)) (.int .i64 v6))
 have lt6 := (B6.out.kept hk).lt
 have fr6 := (B6.out.kept hk).fro
 have ce6 := (B6.out.kept hk).cell 6 _ rfl
 clear B6 M6 K6 lb6 bf6 bc6 C6 hk
 have lb7 := B7.out.lt
 have bf7 := B7.out.fro
 have bc7 := B7.out.cell 7 _ rfl
 go_wp2_with fail
 refine (C7.out _ M7).mono ?_
 rintro o w8 ⟨rfl, hk⟩
 have B8 := hide1 ((B7.out.kept hk).set 7 (.int .i64 v7) (by simp))
 have M8 := hide1 (ST.out _ 7 (.int .i64 v7) (M7.out.kept hk))
 have K8 := hide1 ((K7.out.trans hk).setCell (p := ⟨w.heap.size, 7, none⟩) (.inr (Nat.le_refl _)) (.int .i64 v7))
 have lt7 := (B7.out.kept hk).lt
 have fr7 := (B7.out.kept hk).fro
 have ce7 := (B7.out.kept hk).cell 7 _ rfl
 clear B7 M7 K7 lb7 bf7 bc7 C7 hk
 have lb8 := B8.out.lt
 have bf8 := B8.out.fro
 have bc8 := B8.out.cell 8 _ rfl
 go_wp2_with fail
 refine (C8.out _ M8).mono ?_
 rintro o w9 ⟨rfl, hk⟩
 have B9 := hide1 ((B8.out.kept hk).set 8 (.int .i64 v8) (by simp))
 have M9 := hide1 (ST.out _ 8 (.int .i64 v8) (M8.out.kept hk))
 have K9 := hide1 ((K8.out.trans hk).setCell (p := ⟨w.heap.size, 8, none⟩) (.inr (Nat.le_refl _)) (.int .i64 v8))
 have lt8 := (B8.out.kept hk).lt
 have fr8 := (B8.out.kept hk).fro
 have ce8 := (B8.out.kept hk).cell 8 _ rfl
 clear B8 M8 K8 lb8 bf8 bc8 C8 hk
 have lb9 := B9.out.lt
 have bf9 := B9.out.fro
 have bc9 := B9.out.cell 9 _ rfl
 go_wp2_with fail
 refine (C9.out _ M9).mono ?_
 rintro o w10 ⟨rfl, hk⟩
 have B10 := hide1 ((B9.out.kept hk).set 9 (.int .i64 v9) (by simp))
 have M10 := hide1 (ST.out _ 9 (.int .i64 v9) (M9.out.kept hk))
 have K10 := hide1 ((K9.out.trans hk).setCell (p := ⟨w.heap.size, 9, none⟩) (.inr (Nat.le_refl _)) (.int .i64 v9))
 have lt9 := (B9.out.kept hk).lt
 have fr9 := (B9.out.kept hk).fro
 have ce9 := (B9.out.kept hk).cell 9 _ rfl
 clear B9 M9 K9 lb9 bf9 bc9 C9 hk
 have lb10 := B10.out.lt
 have bf10 := B10.out.fro
 have bc10 := B10.out.cell 10 _ rfl
 go_wp2_with fail
 refine (C10.out _ M10).mono ?_
 rintro o w11 ⟨rfl, hk⟩
 have B11 := hide1 ((B10.out.kept hk).set 10 (.int .i64 v10) (by simp))
 have M11 := hide1 (ST.out _ 10 (.int .i64 v10) (M10.out.kept hk))
 have K11 := hide1 ((K10.out.trans hk).setCell (p := ⟨w.heap.size, 10, none⟩) (.inr (Nat.le_refl _)) (.int .i64 v10))
 have lt10 := (B10.out.kept hk).lt
 have fr10 := (B10.out.kept hk).fro
 have ce10 := (B10.out.kept hk).cell 10 _ rfl
 clear B10 M10 K10 lb10 bf10 bc10 C10 hk
 have lb11 := B11.out.lt
 have bf11 := B11.out.fro
 have bc11 := B11.out.cell 11 _ rfl
 go_wp2_with fail
 refine (C11.out _ M11).mono ?_
 rintro o w12 ⟨rfl, hk⟩
 have B12 := hide1 ((B11.out.kept hk).set 11 (.int .i64 v11) (by simp))
 have M12 := hide1 (ST.out _ 11 (.int .i64 v11) (M11.out.kept hk))
 have K12 := hide1 ((K11.out.trans hk).setCell (p := ⟨w.heap.size, 11, none⟩) (.inr (Nat.le_refl _)) (.int .i64 v11))
 have lt11 := (B11.out.kept hk).lt
 have fr11 := (B11.out.kept hk).fro
 have ce11 := (B11.out.kept hk).cell 11 _ rfl
 clear B11 M11 K11 lb11 bf11 bc11 C11 hk
 have lb12 := B12.out.lt
 have bf12 := B12.out.fro
 have bc12 := B12.out.cell 12 _ rfl
 go_wp2_with fail
 refine (C12.out _ M12).mono ?_
 rintro o w13 ⟨rfl, hk⟩
 have B13 := hide1 ((B12.out.kept hk).set 12 (.int .i64 v12) (by simp))
 have M13 := hide1 (ST.out _ 12 (.int .i64 v12) (M12.out.kept hk))
 have K13 := hide1 ((K12.out.trans hk).setCell (p := ⟨w.heap.size, 12, none⟩) (.inr (Nat.le_refl _)) (.int .i64 v12))
 have lt12 := (B12.out.kept hk).lt
 have fr12 := (B12.out.kept hk).fro
 have ce12 := (B12.out.kept hk).cell 12 _ rfl
 clear B12 M12 K12 lb12 bf12 bc12 C12 hk
 have lb13 := B13.out.lt
 have bf13 := B13.out.fro
 have bc13 := B13.out.cell 13 _ rfl
 go_wp2_with fail
 refine (CR.out _ M13).mono ?_
 rintro o w14 ⟨rfl, hw14⟩
 have B14 := hide1 (B13.out.set 13 (.string r) (by simp))
 have M14 := hide1 (ST.out _ 13 (.string r) M13.out)
 have K14 := hide1 (K13.out.setCell (p := ⟨w.heap.size, 13, none⟩) (.inr (Nat.le_refl _)) (.string r))
 rw [<- hw14] at B14 M14 K14 lb13 bf13 bc13
 clear B13 M13 K13 hw14
 go_wp2_with fail
 refine (SH.out _ M14).mono ?_
 rintro o w15 ⟨rfl, hk⟩
 have B15 := hide1 (B14.out.kept hk)
 have K15 := hide1 (K14.out.trans hk)
 have lb15 := B15.out.lt
 have bf15 := B15.out.fro
 have bc15 := B15.out.cell 14 _ rfl
 obtain ⟨x, hx⟩ := zn1 (t.extract 4 132)
 have hsl : ∀ w, (Instr.slice 9 (.string t) (some (.int .i64 4)) (some (.int .i64 132)) none).run prog w = .ok (.string x) w := by
  intro w; rw [hx]; exact slice_mid t 4 132 (by omega) (by omega) w
 have FY := hide1 (FX.out x hx)
 clear hx hk M14 B14 K14 FX SH CR ST
 go_wp2_with fail
 go_ret
 have B16 := B15.out.set 14 (.string x) (by simp)
 have K16 := K15.out.setCell (p := ⟨w.heap.size, 14, none⟩) (.inr (Nat.le_refl _)) (.string x)
 exact ⟨⟨_, FY.out, rfl, B16⟩, K16⟩
theorem k_look (mb rb z : Nat) (w : World) (hw : Hid (Mz w mb rb z)) : Calls prog 52 #[.pointer (some ⟨mb, 0, none⟩)] w fun o w' => (∃ f : Fc, FcOk f z /\ o = .returned (.pointer (some ⟨w.heap.size, 0, none⟩)) /\ BoxF w' w.heap.size f.l) /\ Kept [] w w' := by
 obtain ⟨X, h1, h2, h3⟩ := hw.out
 refine (k_lookV mb rb X h2 w (hide1 h1)).mono (fun o w' h => ⟨?_, h.2⟩)
 obtain ⟨⟨f, hf, a, b⟩, _⟩ := h
 exact ⟨f, hf.ok h2 h3, a, b⟩
end
end Go.Proofs.YtmlgonbhoknoiabGreatDoor
