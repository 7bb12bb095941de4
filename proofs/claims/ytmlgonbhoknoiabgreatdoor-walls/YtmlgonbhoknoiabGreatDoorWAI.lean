import Derived.Test.YtmlgonbhoknoiabGreatDoorWAH
set_option maxHeartbeats 8000000
set_option linter.all false
namespace Go.Proofs.YtmlgonbhoknoiabGreatDoor
open Go.RowKit Go.Proofs.Tryz
section
attribute [local go_sem ↓] Go.wp_at_zero Go.wp_at_succ
def tgtD (X : XS) (i : NI) : Nat := wordN ((X.x.getD i.rs1 0 : Int) + i.im)
def npcD (X : XS) (i : NI) : Nat :=
 if i.op = 3 \/ ((5 <= i.op /\ i.op <= 10) /\ holds i.op (X.x.getD i.rs1 0) (X.x.getD i.rs2 0) = true) then wordN ((X.pc : Int) + i.im)
 else if i.op = 4 then tgtD X i - tgtD X i % 2
 else if i.op = 67 then X.c.mepc else if i.op = 68 then X.c.sepc else behD X.pc i
theorem x_nextPc_jal (mb rb : Nat) (X : XS) (hpc : X.pc < 4294967296) (i : NI) (hi : NIOk i) (hop : i.op = 3) (w) (hw : Hid (XAt w mb rb X)) :
 CK 132 #[.pointer (some ⟨mb, 0, none⟩), niV i] (.int .i64 (wordN ((X.pc : Int) + i.im))) w := by
 have hlt := hw.out.lt
 have hlt' : ¬ mb = w.heap.size := by omega
 have c33 := hw.out.c33
 have i0 := hi.im0
 have i1 := hi.im1
 have WD := hide1 (x_word ((X.pc : Int) + i.im))
 have wr : IntKind.i64.wrap ((X.pc : Int) + i.im) = (X.pc : Int) + i.im := zq9
 obtain ⟨r, hr⟩ := zn1 (wordN ((X.pc : Int) + i.im))
 simp only [<- hr] at WD |-
 unfold niV
 rw [hop]
 clear hr hi hw hop
 go_enter func132, ntmps132
 go_upto_region 2 with fail
 exact zq263
theorem x_nextPc_br (mb rb X) (hX : XOk X) (i : NI) (hi : NIOk i) (hop : 5 <= i.op /\ i.op <= 10) (hh : holds i.op (X.x.getD i.rs1 0) (X.x.getD i.rs2 0) = true) (w) (hw : Hid (XAt w mb rb X)) :
 CK 132 #[.pointer (some ⟨mb, 0, none⟩), niV i] (.int .i64 (wordN ((X.pc : Int) + i.im))) w := by
 have hpc := hX.pc
 have hlt := hw.out.lt
 have hlt' : ¬ mb = w.heap.size := by omega
 have c33 := hw.out.c33
 have i0 := hi.im0
 have i1 := hi.im1
 have WD := hide1 (x_word ((X.pc : Int) + i.im))
 have wr : IntKind.i64.wrap ((X.pc : Int) + i.im) = (X.pc : Int) + i.im := zq9
 obtain ⟨r, hr⟩ := zn1 (wordN ((X.pc : Int) + i.im))
 simp only [<- hr] at WD |-
 have hwa : Hid (XAt (w.alloc (niC i)) mb rb X) := zq10
 have BR := hide1 (fun W h => x_branches mb rb X hX.xr i hi hop W h)
 simp only [hh] at BR
 unfold niC at hwa
 unfold niV at BR |-
 obtain ⟨op, rd, rs1, rs2, im, ln⟩ := i
 dsimp only at *
 have IB : Hid (∀ W, CS 192 #[.int .i64 op] (.bool true) W) := zq49
 have q3 : (op == 3) = false := by simp; omega
 clear hr hi hw hop hh hX
 go_enter func132, ntmps132
 go_wp2_with (first | (go_at_call 192; refine (IB.out _).mono ?_; rintro o w2 ⟨rfl, rfl⟩))
 refine (BR.out _ hwa).mono ?_
 rintro o w1 ⟨rfl, hk1⟩
 have hx1 := hwa.out.kept hk1
 have d33 := hx1.c33
 have hl1 := hx1.lt
 obtain ⟨ic0w1, ic1w1, ic2w1, ic3w1, ic4w1, ic5w1, ifw1, izw1, izw11, inw11, izw12, inw12, izw13, inw13, izw14, inw14⟩ : Zc6 w1 w.heap.size op rd rs1 rs2 im ln := zq151
 go_upto_region 2 with fail
 go_quiet ((go_at_call 135; exact Calls.quiet_of_same (WD.out _)))
 exact zq264
theorem x_nextPc_jalr (mb rb X) (hX : XOk X) (i : NI) (hi : NIOk i) (hop : i.op = 4) (w) (hw : Hid (XAt w mb rb X)) :
 CK 132 #[.pointer (some ⟨mb, 0, none⟩), niV i] (.int .i64 ((tgtD X i - tgtD X i % 2 : Nat) : Int)) w := by
 have hlt := hw.out.lt
 have hlt' : ¬ mb = w.heap.size := by omega
 have c33 := hw.out.c33
 have i0 := hi.im0
 have i1 := hi.im1
 have ha := hX.xr i.rs1
 have A1 := hide1 (fun W h => x_register mb rb X i.rs1 hi.rs1 W h)
 have hwa : Hid (XAt (w.alloc (niC i)) mb rb X) := zq10
 have hl : tgtD X i < 4294967296 := by unfold tgtD wordN; omega
 unfold tgtD at hl |-
 obtain ⟨a, hae⟩ := zn1 (X.x.getD i.rs1 0)
 simp only [<- hae] at ha A1 hl |-
 have WD := hide1 (x_word ((a : Int) + i.im))
 have wr : IntKind.i64.wrap ((a : Int) + i.im) = (a : Int) + i.im := zq9
 obtain ⟨t, ht⟩ := zn1 (wordN ((a : Int) + i.im))
 simp only [<- ht] at WD hl |-
 have et : ((t - t % 2 : Nat) : Int) = (t : Int) - (t : Int) % 2 := by omega
 rw [et]
 unfold niC at hwa
 unfold niV
 obtain ⟨op, rd, rs1, rs2, im, ln⟩ := i
 dsimp only at *
 have IB : Hid (∀ W, CS 192 #[.int .i64 op] (.bool false) W) := zq50
 subst hop
 clear ht hae hi hw hX et
 go_enter func132, ntmps132
 go_upto_region 4 with (first | (go_at_call 192; refine (IB.out _).mono ?_; rintro o w2 ⟨rfl, rfl⟩))
 go_quiet ((first | (go_at_call 39; first | exact Calls.quiet_of_same (A1.out _ hwa) | exact Calls.quiet_of_same (A1.out _ (hide1 (hwa.out.drewN _))) | exact Calls.quiet_of_same (A1.out _ (hide1 hwa.out.drew))) | (go_at_call 135; exact Calls.quiet_of_same (WD.out _))))
 exact zq259
theorem x_nextPc_mret (mb rb : Nat) (X : XS) (i : NI) (hop : i.op = 67) (w) (hw : Hid (XAt w mb rb X)) :
 CK 132 #[.pointer (some ⟨mb, 0, none⟩), niV i] (.int .i64 X.c.mepc) w := by
 have hlt := hw.out.lt
 have hlt' : ¬ mb = w.heap.size := by omega
 have ce := hw.out.c47
 exact zq265
theorem x_nextPc_sret (mb rb : Nat) (X : XS) (i : NI) (hop : i.op = 68) (w) (hw : Hid (XAt w mb rb X)) :
 CK 132 #[.pointer (some ⟨mb, 0, none⟩), niV i] (.int .i64 X.c.sepc) w := by
 have hlt := hw.out.lt
 have hlt' : ¬ mb = w.heap.size := by omega
 have ce := hw.out.c53
 exact zq265
theorem x_nextPc_oth (mb rb X) (hX : XOk X) (i : NI) (hi : NIOk i) (h3 : i.op ≠ 3) (h4 : i.op ≠ 4) (h67 : i.op ≠ 67) (h68 : i.op ≠ 68) (hop : ¬ (5 <= i.op /\ i.op <= 10)) (w) (hw : Hid (XAt w mb rb X)) :
 CK 132 #[.pointer (some ⟨mb, 0, none⟩), niV i] (.int .i64 (behD X.pc i)) w := by
 have BH := hide1 (fun W h => x_behind mb rb X hX.pc i hi W h)
 have hwa : Hid (XAt (w.alloc (niC i)) mb rb X) := zq10
 obtain ⟨r, hr⟩ := zn1 (behD X.pc i)
 simp only [<- hr] at BH |-
 unfold niC at hwa
 unfold niV at BH |-
 obtain ⟨op, rd, rs1, rs2, im, ln⟩ := i
 dsimp only at *
 have IB : Hid (∀ W, CS 192 #[.int .i64 op] (.bool false) W) := zq50
 have q3 : (op == 3) = false := by simp [h3]
 have q4 : (op == 4) = false := by simp [h4]
 have q67 : (op == 67) = false := by simp [h67]
 have q68 : (op == 68) = false := by simp [h68]
 clear hw hX hi hr h3 h4 h67 h68 hop
 go_enter func132, ntmps132
 go_wp2_with (first | (go_at_call 192; refine (IB.out _).mono ?_; rintro o w2 ⟨rfl, rfl⟩))
 refine (BH.out _ hwa).mono ?_
 rintro o w1 ⟨rfl, hk1⟩
 go_wp2_with fail
 go_ret
 exact ⟨rfl, ((Kept.refl _ _).alloc _).trans hk1⟩
theorem x_nextPc_bn (mb rb X) (hX : XOk X) (i : NI) (hi : NIOk i) (hop : 5 <= i.op /\ i.op <= 10) (hh : holds i.op (X.x.getD i.rs1 0) (X.x.getD i.rs2 0) = false) (w) (hw : Hid (XAt w mb rb X)) :
 CK 132 #[.pointer (some ⟨mb, 0, none⟩), niV i] (.int .i64 (behD X.pc i)) w := by
 have hlt := hw.out.lt
 have hrlt := hw.out.rlt
 have BH := hide1 (fun W h => x_behind mb rb X hX.pc i hi W h)
 have hwa : Hid (XAt (w.alloc (niC i)) mb rb X) := zq10
 have BR := hide1 (fun W h => x_branches mb rb X hX.xr i hi hop W h)
 simp only [hh] at BR
 obtain ⟨r, hr⟩ := zn1 (behD X.pc i)
 simp only [<- hr] at BH |-
 unfold niC at hwa
 unfold niV at BH BR |-
 obtain ⟨op, rd, rs1, rs2, im, ln⟩ := i
 dsimp only at *
 have IB : Hid (∀ W, CS 192 #[.int .i64 op] (.bool true) W) := zq49
 have q3 : (op == 3) = false := by simp; omega
 have q4 : (op == 4) = false := by simp; omega
 have q67 : (op == 67) = false := by simp; omega
 have q68 : (op == 68) = false := by simp; omega
 clear hw hX hi hr hop hh
 go_enter func132, ntmps132
 go_wp2_with (first | (go_at_call 192; refine (IB.out _).mono ?_; rintro o w2 ⟨rfl, rfl⟩))
 refine (BR.out _ hwa).mono ?_
 rintro o w1 ⟨rfl, hk1⟩
 have hx1 := hide1 (hwa.out.kept hk1)
 obtain ⟨ic0w1, ic1w1, ic2w1, ic3w1, ic4w1, ic5w1, ifw1, izw1, izw11, inw11, izw12, inw12, izw13, inw13, izw14, inw14⟩ : Zc6 w1 w.heap.size op rd rs1 rs2 im ln := zq151
 go_wp2_with fail
 refine (BH.out _ hx1).mono ?_
 rintro o w2 ⟨rfl, hk2⟩
 go_wp2_with fail
 go_ret
 refine ⟨rfl, ?_⟩
 exact zq266
theorem x_nextPc (mb rb X) (hX : XOk X) (i : NI) (hi : NIOk i) (w) (hw : Hid (XAt w mb rb X)) :
 CK 132 #[.pointer (some ⟨mb, 0, none⟩), niV i] (.int .i64 (npcD X i)) w := by
 unfold npcD
 by_cases h3 : i.op = 3
 . rw [if_pos (.inl h3)]
   exact x_nextPc_jal mb rb X hX.pc i hi h3 w hw
 by_cases hb : 5 <= i.op /\ i.op <= 10
 . cases hh : holds i.op (X.x.getD i.rs1 0) (X.x.getD i.rs2 0) with
   | true =>
    rw [if_pos (.inr ⟨hb, rfl⟩)]
    exact x_nextPc_br mb rb X hX i hi hb hh w hw
   | false =>
    rw [if_neg (by simp [h3]), if_neg (by omega), if_neg (by omega), if_neg (by omega)]
    exact x_nextPc_bn mb rb X hX i hi hb hh w hw
 rw [if_neg (by intro h; rcases h with h | h; exact h3 h; exact hb h.1)]
 by_cases h4 : i.op = 4
 . rw [if_pos h4]; exact x_nextPc_jalr mb rb X hX i hi h4 w hw
 rw [if_neg h4]
 by_cases h67 : i.op = 67
 . rw [if_pos h67]; exact x_nextPc_mret mb rb X i h67 w hw
 rw [if_neg h67]
 by_cases h68 : i.op = 68
 . rw [if_pos h68]; exact x_nextPc_sret mb rb X i h68 w hw
 rw [if_neg h68]
 exact x_nextPc_oth mb rb X hX i hi h3 h4 h67 h68 hb w hw
def rsvD (X : XS) (i : NI) : Nat :=
 if i.op = 1 then wordN (i.im * 4096) else if i.op = 2 then wordN ((X.pc : Int) + i.im * 4096) else if i.op = 3 \/ i.op = 4 then behD X.pc i
 else if i.op <= 27 then alu i.op (X.x.getD i.rs1 0) (wordN i.im) else alu i.op (X.x.getD i.rs1 0) (X.x.getD i.rs2 0)
theorem x_result_lui (mb rb X) (hX : XOk X) (i : NI) (hi : NIOk i) (hop : i.op = 1) (w) (hw : Hid (XAt w mb rb X)) :
 CK 196 #[.pointer (some ⟨mb, 0, none⟩), niV i] (.int .i64 (wordN (i.im * 4096) : Nat)) w := by
 have hlt := hw.out.lt
 have hlt' : ¬ mb = w.heap.size := by omega
 have c33 := hw.out.c33
 have hpc := hX.pc
 have i0 := hi.im0
 have i1 := hi.im1
 have ha := hX.xr i.rs1
 have hb := hX.xr i.rs2
 have A1 := hide1 (fun W h => x_register mb rb X i.rs1 hi.rs1 W h)
 have A2 := hide1 (fun W h => x_register mb rb X i.rs2 hi.rs2 W h)
 have BH := hide1 (fun W h => x_behind mb rb X hX.pc i hi W h)
 have hwa : Hid (XAt (w.alloc (niC i)) mb rb X) := zq10
 obtain ⟨a, hae⟩ := zn1 (X.x.getD i.rs1 0)
 obtain ⟨b, hbe⟩ := zn1 (X.x.getD i.rs2 0)
 simp only [<- hae] at ha A1 |-
 simp only [<- hbe] at hb A2 |-
 obtain ⟨bh, hbh⟩ := zn1 (behD X.pc i)
 simp only [<- hbh] at BH |-
 unfold niC at hwa
 unfold niV at BH |-
 obtain ⟨op, rd, rs1, rs2, im, ln⟩ := i
 dsimp only at *
 have WD := hide1 (x_word (im * 4096))
 obtain ⟨r, hr⟩ := zn1 (wordN (im * 4096))
 simp only [<- hr] at WD |-
 subst hop
 clear hr
 clear hw hX hi hae hbe hbh
 go_enter func196, ntmps196
 go_wp2_with fail
 refine (A1.out _ hwa).mono ?_
 rintro o w1 ⟨rfl, rfl⟩
 go_wp2_with (go_at_call 135; refine (WD.out _).mono ?_; rintro o w2 ⟨rfl, rfl⟩)
 exact zq241
theorem x_result_aui (mb rb X) (hX : XOk X) (i : NI) (hi : NIOk i) (hop : i.op = 2) (w) (hw : Hid (XAt w mb rb X)) :
 CK 196 #[.pointer (some ⟨mb, 0, none⟩), niV i] (.int .i64 (wordN ((X.pc : Int) + i.im * 4096) : Nat)) w := by
 have hlt := hw.out.lt
 have hlt' : ¬ mb = w.heap.size := by omega
 have c33 := hw.out.c33
 have hpc := hX.pc
 have i0 := hi.im0
 have i1 := hi.im1
 have ha := hX.xr i.rs1
 have hb := hX.xr i.rs2
 have A1 := hide1 (fun W h => x_register mb rb X i.rs1 hi.rs1 W h)
 have A2 := hide1 (fun W h => x_register mb rb X i.rs2 hi.rs2 W h)
 have BH := hide1 (fun W h => x_behind mb rb X hX.pc i hi W h)
 have hwa : Hid (XAt (w.alloc (niC i)) mb rb X) := zq10
 obtain ⟨a, hae⟩ := zn1 (X.x.getD i.rs1 0)
 obtain ⟨b, hbe⟩ := zn1 (X.x.getD i.rs2 0)
 simp only [<- hae] at ha A1 |-
 simp only [<- hbe] at hb A2 |-
 obtain ⟨bh, hbh⟩ := zn1 (behD X.pc i)
 simp only [<- hbh] at BH |-
 unfold niC at hwa
 unfold niV at BH |-
 obtain ⟨op, rd, rs1, rs2, im, ln⟩ := i
 dsimp only at *
 have WD := hide1 (x_word ((X.pc : Int) + im * 4096))
 have wr : IntKind.i64.wrap (im * 4096) = im * 4096 := zq9
 have wr2 : IntKind.i64.wrap ((X.pc : Int) + im * 4096) = (X.pc : Int) + im * 4096 := zq9
 obtain ⟨r, hr⟩ := zn1 (wordN ((X.pc : Int) + im * 4096))
 simp only [<- hr] at WD |-
 subst hop
 clear hr
 clear hw hX hi hae hbe hbh
 go_enter func196, ntmps196
 go_wp2_with fail
 refine (A1.out _ hwa).mono ?_
 rintro o w1 ⟨rfl, rfl⟩
 go_upto_region 5 with fail
 exact zq263
theorem x_result_jal (mb rb X) (hX : XOk X) (i : NI) (hi : NIOk i) (hop : i.op = 3) (w) (hw : Hid (XAt w mb rb X)) :
 CK 196 #[.pointer (some ⟨mb, 0, none⟩), niV i] (.int .i64 (behD X.pc i : Nat)) w := zq267
theorem x_result_jalr (mb rb X) (hX : XOk X) (i : NI) (hi : NIOk i) (hop : i.op = 4) (w) (hw : Hid (XAt w mb rb X)) :
 CK 196 #[.pointer (some ⟨mb, 0, none⟩), niV i] (.int .i64 (behD X.pc i : Nat)) w := zq267
theorem x_result_imm (mb rb X) (hX : XOk X) (i : NI) (hi : NIOk i) (hop : 19 <= i.op /\ i.op <= 27) (w) (hw : Hid (XAt w mb rb X)) :
 CK 196 #[.pointer (some ⟨mb, 0, none⟩), niV i] (.int .i64 (alu i.op (X.x.getD i.rs1 0) (wordN i.im) : Nat)) w := by
 have hlt := hw.out.lt
 have hlt' : ¬ mb = w.heap.size := by omega
 have c33 := hw.out.c33
 have hpc := hX.pc
 have i0 := hi.im0
 have i1 := hi.im1
 have ha := hX.xr i.rs1
 have hb := hX.xr i.rs2
 have A1 := hide1 (fun W h => x_register mb rb X i.rs1 hi.rs1 W h)
 have A2 := hide1 (fun W h => x_register mb rb X i.rs2 hi.rs2 W h)
 have BH := hide1 (fun W h => x_behind mb rb X hX.pc i hi W h)
 have hwa : Hid (XAt (w.alloc (niC i)) mb rb X) := zq10
 obtain ⟨a, hae⟩ := zn1 (X.x.getD i.rs1 0)
 obtain ⟨b, hbe⟩ := zn1 (X.x.getD i.rs2 0)
 simp only [<- hae] at ha A1 |-
 simp only [<- hbe] at hb A2 |-
 obtain ⟨bh, hbh⟩ := zn1 (behD X.pc i)
 simp only [<- hbh] at BH |-
 unfold niC at hwa
 unfold niV at BH |-
 obtain ⟨op, rd, rs1, rs2, im, ln⟩ := i
 dsimp only at *
 have WD := hide1 (x_word im)
 have hwl : wordN im < 4294967296 := by unfold wordN; omega
 have hal := alu_regD op hop.1 hop.2 a (wordN im)
 have RF := hide1 (x_registerForm op)
 have RK := hide1 (x_reckon (xregD op) hal.2.1 hal.2.2 a (wordN im) ha hwl)
 simp only [hal.1] at RK
 obtain ⟨u, hu⟩ := zn1 (wordN im)
 simp only [<- hu] at WD RK |-
 obtain ⟨f, hf⟩ := zn1 (xregD op)
 simp only [<- hf] at RF RK
 obtain ⟨r, hr⟩ := zn1 (alu op a u)
 simp only [<- hr] at RK |-
 have q1 : (op == 1) = false := by simp; omega
 have q2 : (op == 2) = false := by simp; omega
 have q3 : (op == 3) = false := by simp; omega
 have q4 : (op == 4) = false := by simp; omega
 have q27 : decide (op <= 27) = true := by simp; omega
 clear hr hf hu hal hwl hop
 clear hw hX hi hae hbe hbh
 go_enter func196, ntmps196
 go_wp2_with fail
 refine (A1.out _ hwa).mono ?_
 rintro o w1 ⟨rfl, rfl⟩
 go_upto_region 9 with fail
 go_quiet ((first | (go_at_call 135; exact Calls.quiet_of_same (WD.out _)) | (go_at_call 265; exact Calls.quiet_of_same (RF.out _)) | (go_at_call 264; exact Calls.quiet_of_same (RK.out _))))
 exact zq259
theorem x_result_reg (mb rb X) (hX : XOk X) (i : NI) (hi : NIOk i) (hop : 28 <= i.op /\ i.op <= 37) (w) (hw : Hid (XAt w mb rb X)) :
 CK 196 #[.pointer (some ⟨mb, 0, none⟩), niV i] (.int .i64 (alu i.op (X.x.getD i.rs1 0) (X.x.getD i.rs2 0) : Nat)) w := by
 have hlt := hw.out.lt
 have hlt' : ¬ mb = w.heap.size := by omega
 have c33 := hw.out.c33
 have hpc := hX.pc
 have i0 := hi.im0
 have i1 := hi.im1
 have ha := hX.xr i.rs1
 have hb := hX.xr i.rs2
 have A1 := hide1 (fun W h => x_register mb rb X i.rs1 hi.rs1 W h)
 have A2 := hide1 (fun W h => x_register mb rb X i.rs2 hi.rs2 W h)
 have BH := hide1 (fun W h => x_behind mb rb X hX.pc i hi W h)
 have hwa : Hid (XAt (w.alloc (niC i)) mb rb X) := zq10
 obtain ⟨a, hae⟩ := zn1 (X.x.getD i.rs1 0)
 obtain ⟨b, hbe⟩ := zn1 (X.x.getD i.rs2 0)
 simp only [<- hae] at ha A1 |-
 simp only [<- hbe] at hb A2 |-
 obtain ⟨bh, hbh⟩ := zn1 (behD X.pc i)
 simp only [<- hbh] at BH |-
 unfold niC at hwa
 unfold niV at BH |-
 obtain ⟨op, rd, rs1, rs2, im, ln⟩ := i
 dsimp only at *
 have RK := hide1 (x_reckon op hop.1 hop.2 a b ha hb)
 obtain ⟨r, hr⟩ := zn1 (alu op a b)
 simp only [<- hr] at RK |-
 have q1 : (op == 1) = false := by simp; omega
 have q2 : (op == 2) = false := by simp; omega
 have q3 : (op == 3) = false := by simp; omega
 have q4 : (op == 4) = false := by simp; omega
 have q27 : decide (op <= 27) = false := by simp; omega
 have q37 : decide (op <= 37) = true := by simp; omega
 clear hr hop
 clear hw hX hi hae hbe hbh
 go_enter func196, ntmps196
 go_wp2_with fail
 refine (A1.out _ hwa).mono ?_
 rintro o w1 ⟨rfl, rfl⟩
 go_upto_region 11 with fail
 go_quiet ((first | (go_at_call 39; first | exact Calls.quiet_of_same (A2.out _ hwa) | exact Calls.quiet_of_same (A2.out _ (hide1 (hwa.out.drewN _))) | exact Calls.quiet_of_same (A2.out _ (hide1 hwa.out.drew))) | (go_at_call 264; exact Calls.quiet_of_same (RK.out _))))
 exact zq259
theorem x_result_mul (mb rb X) (hX : XOk X) (i : NI) (hi : NIOk i) (hop : 42 <= i.op /\ i.op <= 49) (w) (hw : Hid (XAt w mb rb X)) :
 CK 196 #[.pointer (some ⟨mb, 0, none⟩), niV i] (.int .i64 (alu i.op (X.x.getD i.rs1 0) (X.x.getD i.rs2 0) : Nat)) w := by
 have hlt := hw.out.lt
 have hlt' : ¬ mb = w.heap.size := by omega
 have c33 := hw.out.c33
 have hpc := hX.pc
 have i0 := hi.im0
 have i1 := hi.im1
 have ha := hX.xr i.rs1
 have hb := hX.xr i.rs2
 have A1 := hide1 (fun W h => x_register mb rb X i.rs1 hi.rs1 W h)
 have A2 := hide1 (fun W h => x_register mb rb X i.rs2 hi.rs2 W h)
 have BH := hide1 (fun W h => x_behind mb rb X hX.pc i hi W h)
 have hwa : Hid (XAt (w.alloc (niC i)) mb rb X) := zq10
 obtain ⟨a, hae⟩ := zn1 (X.x.getD i.rs1 0)
 obtain ⟨b, hbe⟩ := zn1 (X.x.getD i.rs2 0)
 simp only [<- hae] at ha A1 |-
 simp only [<- hbe] at hb A2 |-
 obtain ⟨bh, hbh⟩ := zn1 (behD X.pc i)
 simp only [<- hbh] at BH |-
 unfold niC at hwa
 unfold niV at BH |-
 obtain ⟨op, rd, rs1, rs2, im, ln⟩ := i
 dsimp only at *
 have RK := hide1 (x_multiply op hop.1 hop.2 a b ha hb)
 obtain ⟨r, hr⟩ := zn1 (alu op a b)
 simp only [<- hr] at RK |-
 have q1 : (op == 1) = false := by simp; omega
 have q2 : (op == 2) = false := by simp; omega
 have q3 : (op == 3) = false := by simp; omega
 have q4 : (op == 4) = false := by simp; omega
 have q27 : decide (op <= 27) = false := by simp; omega
 have q37 : decide (op <= 37) = false := by simp; omega
 clear hr hop
 clear hw hX hi hae hbe hbh
 go_enter func196, ntmps196
 go_wp2_with fail
 refine (A1.out _ hwa).mono ?_
 rintro o w1 ⟨rfl, rfl⟩
 go_upto_region 12 with fail
 go_quiet ((first | (go_at_call 39; first | exact Calls.quiet_of_same (A2.out _ hwa) | exact Calls.quiet_of_same (A2.out _ (hide1 (hwa.out.drewN _))) | exact Calls.quiet_of_same (A2.out _ (hide1 hwa.out.drew))) | (go_at_call 266; exact Calls.quiet_of_same (RK.out _))))
 exact zq259
theorem x_result (mb rb X) (hX : XOk X) (i : NI) (hi : NIOk i) (hr : xresD i.op = true) (w) (hw : Hid (XAt w mb rb X)) :
 CK 196 #[.pointer (some ⟨mb, 0, none⟩), niV i] (.int .i64 (rsvD X i)) w := by
 unfold xresD at hr
 simp only [decide_eq_true_eq] at hr
 unfold rsvD
 by_cases h1 : i.op = 1
 . rw [if_pos h1]; exact x_result_lui mb rb X hX i hi h1 w hw
 rw [if_neg h1]
 by_cases h2 : i.op = 2
 . rw [if_pos h2]; exact x_result_aui mb rb X hX i hi h2 w hw
 rw [if_neg h2]
 by_cases h3 : i.op = 3
 . rw [if_pos (.inl h3)]; exact x_result_jal mb rb X hX i hi h3 w hw
 by_cases h4 : i.op = 4
 . rw [if_pos (.inr h4)]; exact x_result_jalr mb rb X hX i hi h4 w hw
 rw [if_neg (by omega)]
 by_cases h5 : i.op <= 27
 . rw [if_pos h5]; exact x_result_imm mb rb X hX i hi (by omega) w hw
 rw [if_neg h5]
 by_cases h6 : i.op <= 37
 . exact x_result_reg mb rb X hX i hi (by omega) w hw
 . exact x_result_mul mb rb X hX i hi (by omega) w hw
theorem cell_drewN (w : World) (n : Nat) (p : Addr) : (w.drewN n).cell? p = w.cell? p := rfl
theorem fro_drewN (w : World) (n : Nat) (p : Addr) : (w.drewN n).frozen? p = w.frozen? p := rfl
def nD (op : Int) : Nat := (xaccD op).toNat
theorem nD_cast (op : Int) : ((nD op : Nat) : Int) = xaccD op := by
 unfold nD xaccD; repeat' split
 all_goals omega
theorem nD_le (op : Int) : 1 <= nD op /\ nD op <= 4 := by
 have := nD_cast op
 unfold xaccD at this
 repeat' split at this
 all_goals omega
theorem reach_takes (B : BusS) (C : CsrS) (va n k : Nat) (h : (reachD B C va n k).1.fault = 0) : takesD ((reachD B C va n k).1.pa1 : Nat) ((reachD B C va n k).1.n1 : Nat) B.ram.length = true /\ (0 < (reachD B C va n k).1.n2 -> takesD ((reachD B C va n k).1.pa2 : Nat) ((reachD B C va n k).1.n2 : Nat) B.ram.length = true) := by
 have l1 := tr_len B C va k
 have l2 := tr_len (trD B C va k).2 C ((va + roomD va n) % 4294967296) k
 revert h
 unfold reachD reach1 reach2
 obtain ⟨kk, hk⟩ := zn1 (roomD va n)
 rw [<- hk] at l2 |-
 obtain ⟨T, hT⟩ := zn1 (trD B C va k)
 rw [<- hT] at l1 l2 |-
 obtain ⟨U, hU⟩ := zn1 (trD T.2 C ((va + kk) % 4294967296) k)
 rw [<- hU] at l2 |-
 rw [l1] at l2
 repeat' split
 all_goals (intro h; dsimp only at h |-)
 all_goals first
  | (exfalso; omega)
  | (exact ⟨by rw [<- l1]; assumption, fun _ => by rw [<- l2]; assumption⟩)
  | (exact ⟨by rw [<- l1]; assumption, fun h => by omega⟩)
def ldvD (op : Int) (v : Nat) : Nat := if op = 11 \/ op = 12 then wordN (xextD v (xaccD op)) else v
def vaD (X : XS) (i : NI) : Nat := wordN ((X.x.getD i.rs1 0 : Int) + i.im)
def excA (c t : Int) : Value := .agg #[.int .i64 c, .int .i64 t]
def ldF (X : XS) (i : NI) (S : Spn × BusS) : (Int × Nat) × XS :=
 if S.1.fault = 0 then ((-1, 0), setXR (X.withB (loadD S.2 S.1).2) i.rd (ldvD i.op (loadD S.2 S.1).1)) else ((xfauD S.1.fault 1, S.1.wh), X.withB S.2)
def ldX (X : XS) (i : NI) : (Int × Nat) × XS := ldF X i (reachD X.b (xC X) (vaD X i) (nD i.op) 1)
theorem x_load_f (mb rb X) (hX : XOk X) (i : NI) (hi : NIOk i) (hf : (reachD X.b (xC X) (vaD X i) (nD i.op) 1).1.fault ≠ 0) (w) (hw : Hid (XAt w mb rb X)) :
 CX 199 #[.pointer (some ⟨mb, 0, none⟩), niV i] (excA (ldX X i).1.1 (ldX X i).1.2) [mb, rb] mb rb ((ldX X i).2) w := by
 have hlt := hw.out.lt
 have hrlt := hw.out.rlt
 have hlt' : ¬ mb = w.heap.size := by omega
 have i0 := hi.im0
 have i1 := hi.im1
 have ha := hX.xr i.rs1
 have A1 := hide1 (fun W h => x_register mb rb X i.rs1 hi.rs1 W h)
 have hwa : Hid (XAt ((w.alloc (niC i)).alloc (.cells #[.int .i64 0, .int .i64 0] 118)) mb rb X) := zq22
 have hva : vaD X i < 4294967296 := zq51
 have hnn := nD_le i.op
 have RE := hide1 (fun W h => x_reach mb rb X hX (vaD X i) (nD i.op) 1 hva hnn.1 hnn.2 (.inr (.inl rfl)) W h)
 have AS : Hid (∀ W, CS 268 #[.int .i64 i.op] (.int .i64 (nD i.op)) W) := zq52
 have WD : Hid (∀ W, CS 135 #[.int .i64 ((X.x.getD i.rs1 0 : Int) + i.im)] (.int .i64 (vaD X i)) W) := zq53
 have wr : IntKind.i64.wrap ((X.x.getD i.rs1 0 : Int) + i.im) = (X.x.getD i.rs1 0 : Int) + i.im := zq9
 have hok := reach_ok hX.b (xC X) (vaD X i) (nD i.op) 1
 have hsp := reach_sp X.b (xC X) (vaD X i) (nD i.op) 1 hva hnn.1
 have htk := reach_takes X.b (xC X) (vaD X i) (nD i.op) 1
 have hle := reach_len X.b (xC X) (vaD X i) (nD i.op) 1
 unfold ldX ldF
 obtain ⟨S, hS⟩ := zn1 (reachD X.b (xC X) (vaD X i) (nD i.op) 1)
 simp only [<- hS] at RE hok hsp htk hle hf |-
 obtain ⟨va, hvv⟩ := zn1 (vaD X i)
 obtain ⟨n, hnv⟩ := zn1 (nD i.op)
 obtain ⟨a, hae⟩ := zn1 (X.x.getD i.rs1 0)
 simp only [<- hvv] at RE WD
 simp only [<- hnv] at RE AS hsp hnn
 simp only [<- hae] at A1 WD wr ha
 clear hS hvv hae
 obtain ⟨⟨pa1, n1, pa2, n2, ft, wh⟩, B⟩ := S
 have hXB := XS.okB hX hok
 rw [<- hle] at htk
 dsimp only at RE hok hsp htk hle hf hXB |-
 rw [if_neg hf]
 unfold niC at hwa
 unfold niV
 obtain ⟨op, rd, rs1, rs2, im, ln⟩ := i
 dsimp only at *
 rw [show spV ⟨pa1, n1, pa2, n2, ft, wh⟩ 1 = .tuple #[.agg #[.int .i64 0, .int .i64 0], .agg #[.int .i64 0, .int .i64 0], .agg #[.int .i64 (xfauD ft 1), .int .i64 wh]] by unfold spV; dsimp only; rw [if_neg hf]; rfl] at RE
 have hn := xfau_ne ft 1
 obtain ⟨c, hc⟩ := zn1 (xfauD ft 1)
 simp only [<- hc] at RE hn |-
 unfold excA
 clear hw hX hi hc hf htk hsp hle hok hXB hnv hnn hva
 go_enter func199, ntmps199
 go_upto_region 1 with fail
 go_quiet ((first | (go_at_call 39; first | exact Calls.quiet_of_same (A1.out _ hwa) | exact Calls.quiet_of_same (A1.out _ (hide1 (hwa.out.drewN _))) | exact Calls.quiet_of_same (A1.out _ (hide1 hwa.out.drew))) | (go_at_call 135; exact Calls.quiet_of_same (WD.out _))))
 go_wp2_with (go_at_call 268; refine (AS.out _).mono ?_; rintro o w2 ⟨rfl, rfl⟩)
 refine (RE.out _ (hide1 (hwa.out.drewN _))).mono ?_
 rintro o w1 ⟨rfl, hx1, hk1⟩
 obtain ⟨ic0w1, ic1w1, ic2w1, ic3w1, ic4w1, ic5w1, ifw1, izw1, izw11, inw11, izw12, inw12, izw13, inw13, izw14, inw14⟩ : Zc6 w1 w.heap.size op rd rs1 rs2 im ln := zq152
 obtain ⟨rc0w1, rc1w1, rfw1, rzw1, rzw11, rnw11, rzw12, rnw12, rzw13, rnw13, rzw14, rnw14⟩ : Zc2 w1 (w.heap.size + 1) 0 0 := zq153
 go_wp2_with (first | (go_at_call 82; refine (x_none _ _ _).mono ?_; rintro o wn ⟨rfl, rfl⟩))
 refine bodyPost_ret (v := .agg #[.int .i64 c, .int .i64 wh]) (by simp [results, results199, go_sem, rc0w1, rc1w1, rzw1, rzw11, rnw11, rzw12, rnw12, rzw13, rnw13, rzw14, rnw14, Nat.ne_of_lt, Nat.ne_of_gt]) rfl ⟨rfl, hx1.box (w.heap.size + 1) ?_ (by omega) (by omega), ?_⟩
 . exact zq268
 . exact zq269
theorem mul_pow256 (u v n1 n2 n : Nat) (hu : u < 256 ^ n1) (hv : v < 256 ^ n2) (hn : n1 + n2 = n) (h4 : n <= 4) : u + v * 256 ^ n1 < 4294967296 := by
 have h1 : (v + 1) * 256 ^ n1 <= 256 ^ n2 * 256 ^ n1 := Nat.mul_le_mul_right _ hv
 rw [<- Nat.pow_add, Nat.add_comm n2 n1, hn] at h1
 have h2 : 256 ^ n <= 256 ^ 4 := Nat.pow_le_pow_right (by omega) h4
 have h3 : (256 : Nat) ^ 4 = 4294967296 := by decide
 rw [Nat.add_mul] at h1
 omega
theorem x_load_y1u (mb rb X) (hX : XOk X) (i : NI) (hi : NIOk i) (hf : (reachD X.b (xC X) (vaD X i) (nD i.op) 1).1.fault = 0) (h2 : (reachD X.b (xC X) (vaD X i) (nD i.op) 1).1.n2 = 0) (hs : ¬ (i.op = 11 \/ i.op = 12)) (w) (hw : Hid (XAt w mb rb X)) :
 CX 199 #[.pointer (some ⟨mb, 0, none⟩), niV i] (excA (ldX X i).1.1 (ldX X i).1.2) [mb, rb] mb rb ((ldX X i).2) w := by
 have hlt := hw.out.lt
 have hrlt := hw.out.rlt
 have hlt' : ¬ mb = w.heap.size := by omega
 have i0 := hi.im0
 have i1 := hi.im1
 have ha := hX.xr i.rs1
 have A1 := hide1 (fun W h => x_register mb rb X i.rs1 hi.rs1 W h)
 have hwa : Hid (XAt ((w.alloc (niC i)).alloc (.cells #[.int .i64 0, .int .i64 0] 118)) mb rb X) := zq22
 have hva : vaD X i < 4294967296 := zq51
 have hnn := nD_le i.op
 have RE := hide1 (fun W h => x_reach mb rb X hX (vaD X i) (nD i.op) 1 hva hnn.1 hnn.2 (.inr (.inl rfl)) W h)
 have AS : Hid (∀ W, CS 268 #[.int .i64 i.op] (.int .i64 (nD i.op)) W) := zq52
 have WD : Hid (∀ W, CS 135 #[.int .i64 ((X.x.getD i.rs1 0 : Int) + i.im)] (.int .i64 (vaD X i)) W) := zq53
 have wr : IntKind.i64.wrap ((X.x.getD i.rs1 0 : Int) + i.im) = (X.x.getD i.rs1 0 : Int) + i.im := zq9
 have hok := reach_ok hX.b (xC X) (vaD X i) (nD i.op) 1
 have hsp := reach_sp X.b (xC X) (vaD X i) (nD i.op) 1 hva hnn.1
 have htk := reach_takes X.b (xC X) (vaD X i) (nD i.op) 1
 have hle := reach_len X.b (xC X) (vaD X i) (nD i.op) 1
 unfold ldX ldF
 obtain ⟨S, hS⟩ := zn1 (reachD X.b (xC X) (vaD X i) (nD i.op) 1)
 simp only [<- hS] at RE hok hsp htk hle hf h2 |-
 obtain ⟨va, hvv⟩ := zn1 (vaD X i)
 obtain ⟨n, hnv⟩ := zn1 (nD i.op)
 obtain ⟨a, hae⟩ := zn1 (X.x.getD i.rs1 0)
 simp only [<- hvv] at RE WD
 simp only [<- hnv] at RE AS hsp hnn
 simp only [<- hae] at A1 WD wr ha
 clear hS hvv hae
 obtain ⟨⟨pa1, n1, pa2, n2, ft, wh⟩, B⟩ := S
 have hXB := XS.okB hX hok
 rw [<- hle] at htk
 dsimp only at RE hok hsp htk hle hf h2 hXB |-
 rw [if_pos hf]
 subst hf
 have htk := htk rfl
 have hx32 := hX.x
 have hrd := hi.rd
 have sp1 := hsp.n1 rfl
 have sps := hsp.sum rfl
 have spp1 := hsp.pa1
 have spp2 := hsp.pa2
 dsimp only at sp1 sps spp1 spp2
 subst h2
 unfold niC at hwa
 unfold niV
 rw [show spV ⟨pa1, n1, pa2, 0, 0, wh⟩ 1 = .tuple #[.agg #[.int .i64 pa1, .int .i64 n1], .agg #[.int .i64 pa2, .int .i64 0], .agg #[.int .i64 (-1), .int .i64 0]] from rfl] at RE
 have R1 := hide1 (fun W h => x_read mb rb (X.withB B) hok pa1 n1 spp1 sp1 (by omega) htk.1 W h)
 have r1ok := readD_ok hok pa1 n1
 have r1lt := readD_lt hok pa1 n1 sp1
 have r1len := readD_len B pa1 n1
 have eB : (X.withB B).b = B := rfl
 rw [eB] at R1
 unfold loadD
 dsimp only
 rw [if_neg (by omega)]
 obtain ⟨T1, hT1⟩ := zn1 (readD B pa1 n1)
 simp only [<- hT1] at R1 r1ok r1lt  |-
 clear hT1
 obtain ⟨u, B1⟩ := T1
 have hBB : (X.withB B).withB B1 = X.withB B1 := rfl
 rw [hBB] at R1
 obtain ⟨s, hse⟩ := zn1 (8 * n1)
 have hs64 : s <= 32 := by omega
 have e8 : (8 : Int) * (n1 : Int) = (s : Int) := by omega
 have hp : u < 4294967296 := zq59
 obtain ⟨V, hV⟩ := zn1 (u)
 have hVl : V < 4294967296 := by rw [hV]; exact hp
 have SR := hide1 (fun W h => x_setRegister mb rb (X.withB B1) hx32 i.rd (ldvD i.op u) hrd W h)
 have eL : ldvD i.op V = V := by unfold ldvD; rw [if_neg hs]
 rw [<- hV] at SR |-
 rw [eL] at SR |-
 have eV : (u : Int) = (V : Int) := by rw [hV]
 have q11 : (i.op == 11) = false := by simp; omega
 have q12 : (i.op == 12) = false := by simp; omega
 obtain ⟨op, rd, rs1, rs2, im, ln⟩ := i
 dsimp only at *
 unfold excA
 clear hw hX hi htk hsp hle hok hXB hnv hnn hva hse hV hp eL r1ok r1lt r1len hs hx32 hrd sps
 go_enter func199, ntmps199
 go_upto_region 1 with fail
 go_quiet ((first | (go_at_call 39; first | exact Calls.quiet_of_same (A1.out _ hwa) | exact Calls.quiet_of_same (A1.out _ (hide1 (hwa.out.drewN _))) | exact Calls.quiet_of_same (A1.out _ (hide1 hwa.out.drew))) | (go_at_call 135; exact Calls.quiet_of_same (WD.out _))))
 go_wp2_with (go_at_call 268; refine (AS.out _).mono ?_; rintro o w2 ⟨rfl, rfl⟩)
 refine (RE.out _ (hide1 (hwa.out.drewN _))).mono ?_
 rintro o w1 ⟨rfl, hx1, hk1⟩
 obtain ⟨ic0w1, ic1w1, ic2w1, ic3w1, ic4w1, ic5w1, ifw1, izw1, izw11, inw11, izw12, inw12, izw13, inw13, izw14, inw14⟩ : Zc6 w1 w.heap.size op rd rs1 rs2 im ln := zq152
 obtain ⟨rc0w1, rc1w1, rfw1, rzw1, rzw11, rnw11, rzw12, rnw12, rzw13, rnw13, rzw14, rnw14⟩ : Zc2 w1 (w.heap.size + 1) 0 0 := zq153
 have hx1a := hide1 ((((hx1.alloc (.cells #[.int .i64 pa1, .int .i64 n1] 231)).alloc (.cells #[.int .i64 pa2, .int .i64 0] 231)).alloc (.cells #[.int .i64 (-1), .int .i64 0] 118)).alloc (.cells #[.int .i64 (-1), .int .i64 0] 118))
 go_wp2_with (first | (go_at_call 82; refine (x_none _ _ _).mono ?_; rintro o wn ⟨rfl, rfl⟩))
 refine (R1.out _ hx1a).mono ?_
 rintro o w2 ⟨rfl, hx2, hk2⟩
 obtain ⟨ic0w2, ic1w2, ic2w2, ic3w2, ic4w2, ic5w2, ifw2, izw2, izw21, inw21, izw22, inw22, izw23, inw23, izw24, inw24⟩ : Zc6 w2 w.heap.size op rd rs1 rs2 im ln := zq154
 obtain ⟨rc0w2, rc1w2, rfw2, rzw2, rzw21, rnw21, rzw22, rnw22, rzw23, rnw23, rzw24, rnw24⟩ : Zc2 w2 (w.heap.size + 1) 0 0 := zq155
 obtain ⟨fc0w2, fc1w2, ffw2, fzw2, fzw21, fnw21, fzw22, fnw22, fzw23, fnw23, fzw24, fnw24⟩ : Zc2 w2 w1.heap.size pa1 n1 := zq156
 obtain ⟨sc0w2, sc1w2, sfw2, szw2, szw21, snw21, szw22, snw22, szw23, snw23, szw24, snw24⟩ : Zc2 w2 (w1.heap.size + 1) pa2 0 := zq157
 go_wp2_with fail
 refine (x_read_0 mb pa2 _).mono ?_
 rintro o w3 ⟨rfl, hk3⟩
 have hx3 := hx2.kept hk3
 exact zq270
theorem x_load_y1s (mb rb X) (hX : XOk X) (i : NI) (hi : NIOk i) (hf : (reachD X.b (xC X) (vaD X i) (nD i.op) 1).1.fault = 0) (h2 : (reachD X.b (xC X) (vaD X i) (nD i.op) 1).1.n2 = 0) (hs : i.op = 11 \/ i.op = 12) (w) (hw : Hid (XAt w mb rb X)) :
 CX 199 #[.pointer (some ⟨mb, 0, none⟩), niV i] (excA (ldX X i).1.1 (ldX X i).1.2) [mb, rb] mb rb ((ldX X i).2) w := by
 have hlt := hw.out.lt
 have hrlt := hw.out.rlt
 have hlt' : ¬ mb = w.heap.size := by omega
 have i0 := hi.im0
 have i1 := hi.im1
 have ha := hX.xr i.rs1
 have A1 := hide1 (fun W h => x_register mb rb X i.rs1 hi.rs1 W h)
 have hwa : Hid (XAt ((w.alloc (niC i)).alloc (.cells #[.int .i64 0, .int .i64 0] 118)) mb rb X) := zq22
 have hva : vaD X i < 4294967296 := zq51
 have hnn := nD_le i.op
 have RE := hide1 (fun W h => x_reach mb rb X hX (vaD X i) (nD i.op) 1 hva hnn.1 hnn.2 (.inr (.inl rfl)) W h)
 have AS : Hid (∀ W, CS 268 #[.int .i64 i.op] (.int .i64 (nD i.op)) W) := zq52
 have WD : Hid (∀ W, CS 135 #[.int .i64 ((X.x.getD i.rs1 0 : Int) + i.im)] (.int .i64 (vaD X i)) W) := zq53
 have wr : IntKind.i64.wrap ((X.x.getD i.rs1 0 : Int) + i.im) = (X.x.getD i.rs1 0 : Int) + i.im := zq9
 have hok := reach_ok hX.b (xC X) (vaD X i) (nD i.op) 1
 have hsp := reach_sp X.b (xC X) (vaD X i) (nD i.op) 1 hva hnn.1
 have htk := reach_takes X.b (xC X) (vaD X i) (nD i.op) 1
 have hle := reach_len X.b (xC X) (vaD X i) (nD i.op) 1
 unfold ldX ldF
 obtain ⟨S, hS⟩ := zn1 (reachD X.b (xC X) (vaD X i) (nD i.op) 1)
 simp only [<- hS] at RE hok hsp htk hle hf h2 |-
 obtain ⟨va, hvv⟩ := zn1 (vaD X i)
 obtain ⟨n, hnv⟩ := zn1 (nD i.op)
 obtain ⟨a, hae⟩ := zn1 (X.x.getD i.rs1 0)
 simp only [<- hvv] at RE WD
 simp only [<- hnv] at RE AS hsp hnn
 simp only [<- hae] at A1 WD wr ha
 clear hS hvv hae
 obtain ⟨⟨pa1, n1, pa2, n2, ft, wh⟩, B⟩ := S
 have hXB := XS.okB hX hok
 rw [<- hle] at htk
 dsimp only at RE hok hsp htk hle hf h2 hXB |-
 rw [if_pos hf]
 subst hf
 have htk := htk rfl
 have hx32 := hX.x
 have hrd := hi.rd
 have sp1 := hsp.n1 rfl
 have sps := hsp.sum rfl
 have spp1 := hsp.pa1
 have spp2 := hsp.pa2
 dsimp only at sp1 sps spp1 spp2
 subst h2
 unfold niC at hwa
 unfold niV
 rw [show spV ⟨pa1, n1, pa2, 0, 0, wh⟩ 1 = .tuple #[.agg #[.int .i64 pa1, .int .i64 n1], .agg #[.int .i64 pa2, .int .i64 0], .agg #[.int .i64 (-1), .int .i64 0]] from rfl] at RE
 have R1 := hide1 (fun W h => x_read mb rb (X.withB B) hok pa1 n1 spp1 sp1 (by omega) htk.1 W h)
 have r1ok := readD_ok hok pa1 n1
 have r1lt := readD_lt hok pa1 n1 sp1
 have r1len := readD_len B pa1 n1
 have eB : (X.withB B).b = B := rfl
 rw [eB] at R1
 unfold loadD
 dsimp only
 rw [if_neg (by omega)]
 obtain ⟨T1, hT1⟩ := zn1 (readD B pa1 n1)
 simp only [<- hT1] at R1 r1ok r1lt  |-
 clear hT1
 obtain ⟨u, B1⟩ := T1
 have hBB : (X.withB B).withB B1 = X.withB B1 := rfl
 rw [hBB] at R1
 obtain ⟨s, hse⟩ := zn1 (8 * n1)
 have hs64 : s <= 32 := by omega
 have e8 : (8 : Int) * (n1 : Int) = (s : Int) := by omega
 have hp : u < 4294967296 := zq59
 obtain ⟨V, hV⟩ := zn1 (u)
 have hVl : V < 4294967296 := by rw [hV]; exact hp
 have SR := hide1 (fun W h => x_setRegister mb rb (X.withB B1) hx32 i.rd (ldvD i.op u) hrd W h)
 have EX : Hid (∀ W, CS 270 #[.int .i64 V, .int .i64 (nD i.op)] (.int .i64 (xextD V (xaccD i.op))) W) := zq73
 have W2 := hide1 (x_word (xextD V (xaccD i.op)))
 have eL : ldvD i.op V = wordN (xextD V (xaccD i.op)) := by unfold ldvD; rw [if_pos hs]
 rw [<- hV] at SR |-
 rw [<- hnv] at EX
 rw [eL] at SR |-
 obtain ⟨xv, hxv⟩ := zn1 (xextD V (xaccD i.op))
 simp only [<- hxv] at EX W2 SR |-
 obtain ⟨yv, hyv⟩ := zn1 (wordN xv)
 simp only [<- hyv] at W2 SR |-
 have eV : (u : Int) = (V : Int) := by rw [hV]
 obtain ⟨op, rd, rs1, rs2, im, ln⟩ := i
 dsimp only at *
 unfold excA
 clear hw hX hi htk hsp hle hok hXB hnv hnn hva hse hV hp eL r1ok r1lt r1len hxv hyv hx32 hrd sps
 rcases hs with hs | hs
 . have q11 : (op == 11) = true := by simp [hs]
   have q12 : (op == 12) = false := by simp [hs]
   exact zq271
 . have q11 : (op == 11) = false := by simp [hs]
   have q12 : (op == 12) = true := by simp [hs]
   exact zq271
theorem x_load_y2u (mb rb X) (hX : XOk X) (i : NI) (hi : NIOk i) (hf : (reachD X.b (xC X) (vaD X i) (nD i.op) 1).1.fault = 0) (h2 : 0 < (reachD X.b (xC X) (vaD X i) (nD i.op) 1).1.n2) (hs : ¬ (i.op = 11 \/ i.op = 12)) (w) (hw : Hid (XAt w mb rb X)) :
 CX 199 #[.pointer (some ⟨mb, 0, none⟩), niV i] (excA (ldX X i).1.1 (ldX X i).1.2) [mb, rb] mb rb ((ldX X i).2) w := by
 have hlt := hw.out.lt
 have hrlt := hw.out.rlt
 have hlt' : ¬ mb = w.heap.size := by omega
 have i0 := hi.im0
 have i1 := hi.im1
 have ha := hX.xr i.rs1
 have A1 := hide1 (fun W h => x_register mb rb X i.rs1 hi.rs1 W h)
 have hwa : Hid (XAt ((w.alloc (niC i)).alloc (.cells #[.int .i64 0, .int .i64 0] 118)) mb rb X) := zq22
 have hva : vaD X i < 4294967296 := zq51
 have hnn := nD_le i.op
 have RE := hide1 (fun W h => x_reach mb rb X hX (vaD X i) (nD i.op) 1 hva hnn.1 hnn.2 (.inr (.inl rfl)) W h)
 have AS : Hid (∀ W, CS 268 #[.int .i64 i.op] (.int .i64 (nD i.op)) W) := zq52
 have WD : Hid (∀ W, CS 135 #[.int .i64 ((X.x.getD i.rs1 0 : Int) + i.im)] (.int .i64 (vaD X i)) W) := zq53
 have wr : IntKind.i64.wrap ((X.x.getD i.rs1 0 : Int) + i.im) = (X.x.getD i.rs1 0 : Int) + i.im := zq9
 have hok := reach_ok hX.b (xC X) (vaD X i) (nD i.op) 1
 have hsp := reach_sp X.b (xC X) (vaD X i) (nD i.op) 1 hva hnn.1
 have htk := reach_takes X.b (xC X) (vaD X i) (nD i.op) 1
 have hle := reach_len X.b (xC X) (vaD X i) (nD i.op) 1
 unfold ldX ldF
 obtain ⟨S, hS⟩ := zn1 (reachD X.b (xC X) (vaD X i) (nD i.op) 1)
 simp only [<- hS] at RE hok hsp htk hle hf h2 |-
 obtain ⟨va, hvv⟩ := zn1 (vaD X i)
 obtain ⟨n, hnv⟩ := zn1 (nD i.op)
 obtain ⟨a, hae⟩ := zn1 (X.x.getD i.rs1 0)
 simp only [<- hvv] at RE WD
 simp only [<- hnv] at RE AS hsp hnn
 simp only [<- hae] at A1 WD wr ha
 clear hS hvv hae
 obtain ⟨⟨pa1, n1, pa2, n2, ft, wh⟩, B⟩ := S
 have hXB := XS.okB hX hok
 rw [<- hle] at htk
 dsimp only at RE hok hsp htk hle hf h2 hXB |-
 rw [if_pos hf]
 subst hf
 have htk := htk rfl
 have hx32 := hX.x
 have hrd := hi.rd
 have sp1 := hsp.n1 rfl
 have sps := hsp.sum rfl
 have spp1 := hsp.pa1
 have spp2 := hsp.pa2
 dsimp only at sp1 sps spp1 spp2
 unfold niC at hwa
 unfold niV
 rw [show spV ⟨pa1, n1, pa2, n2, 0, wh⟩ 1 = .tuple #[.agg #[.int .i64 pa1, .int .i64 n1], .agg #[.int .i64 pa2, .int .i64 n2], .agg #[.int .i64 (-1), .int .i64 0]] from rfl] at RE
 have R1 := hide1 (fun W h => x_read mb rb (X.withB B) hok pa1 n1 spp1 sp1 (by omega) htk.1 W h)
 have r1ok := readD_ok hok pa1 n1
 have r1lt := readD_lt hok pa1 n1 sp1
 have r1len := readD_len B pa1 n1
 have eB : (X.withB B).b = B := rfl
 rw [eB] at R1
 have R2 := hide1 (fun W h => x_read mb rb (X.withB (readD B pa1 n1).2) r1ok pa2 n2 spp2 (by omega) (by omega) zq492 W h)
 have r2lt := readD_lt r1ok pa2 n2 (by omega)
 rw [show (X.withB (readD B pa1 n1).2).b = (readD B pa1 n1).2 from rfl] at R2
 unfold loadD
 dsimp only
 rw [if_pos h2]
 obtain ⟨T1, hT1⟩ := zn1 (readD B pa1 n1)
 simp only [<- hT1] at R1 r1ok r1lt R2 r2lt |-
 clear hT1
 obtain ⟨u, B1⟩ := T1
 have hBB : (X.withB B).withB B1 = X.withB B1 := rfl
 rw [hBB] at R1
 obtain ⟨T2, hT2⟩ := zn1 (readD B1 pa2 n2)
 simp only [<- hT2] at R2 r2lt |-
 clear hT2
 obtain ⟨v, B2⟩ := T2
 have hBB2 : (X.withB B1).withB B2 = X.withB B2 := rfl
 rw [hBB2] at R2
 obtain ⟨s, hse⟩ := zn1 (8 * n1)
 have hs64 : s <= 32 := by omega
 have e8 : (8 : Int) * (n1 : Int) = (s : Int) := by omega
 have hp := mul_pow256 u v n1 n2 n r1lt r2lt sps hnn.2
 have epow : (2 : Int) ^ s = ((256 ^ n1 : Nat) : Int) := by
  have e1 : (2 : Nat) ^ (8 * n1) = 256 ^ n1 := by rw [Nat.pow_mul]
  rw [hse, <- e1]; simp
 obtain ⟨z, hz⟩ := zn1 (v * 256 ^ n1)
 have hzl : u + z < 4294967296 := by rw [hz]; exact hp
 have wv : wrap64 ((v : Int) * 2 ^ s) = (z : Int) := by
  rw [hz]
  rw [epow, <- Int.natCast_mul]
  exact wrap_small _ zq493 zq494
 obtain ⟨V, hV⟩ := zn1 ((u + v * 256 ^ n1))
 have hVl : V < 4294967296 := by rw [hV]; exact hp
 have SR := hide1 (fun W h => x_setRegister mb rb (X.withB B2) hx32 i.rd (ldvD i.op (u + v * 256 ^ n1)) hrd W h)
 have eL : ldvD i.op V = V := by unfold ldvD; rw [if_neg hs]
 rw [<- hV] at SR |-
 rw [eL] at SR |-
 have eV : (u : Int) + (z : Int) = (V : Int) := by rw [hV, hz]; simp
 have q11 : (i.op == 11) = false := by simp; omega
 have q12 : (i.op == 12) = false := by simp; omega
 obtain ⟨op, rd, rs1, rs2, im, ln⟩ := i
 dsimp only at *
 unfold excA
 clear hw hX hi htk hsp hle hok hXB hnv hnn hva hse hV hp eL r1ok r1lt r1len epow r2lt h2 hz hs hx32 hrd sps
 go_enter func199, ntmps199
 go_upto_region 1 with fail
 go_quiet ((first | (go_at_call 39; first | exact Calls.quiet_of_same (A1.out _ hwa) | exact Calls.quiet_of_same (A1.out _ (hide1 (hwa.out.drewN _))) | exact Calls.quiet_of_same (A1.out _ (hide1 hwa.out.drew))) | (go_at_call 135; exact Calls.quiet_of_same (WD.out _))))
 go_wp2_with (go_at_call 268; refine (AS.out _).mono ?_; rintro o w2 ⟨rfl, rfl⟩)
 refine (RE.out _ (hide1 (hwa.out.drewN _))).mono ?_
 rintro o w1 ⟨rfl, hx1, hk1⟩
 obtain ⟨ic0w1, ic1w1, ic2w1, ic3w1, ic4w1, ic5w1, ifw1, izw1, izw11, inw11, izw12, inw12, izw13, inw13, izw14, inw14⟩ : Zc6 w1 w.heap.size op rd rs1 rs2 im ln := zq152
 obtain ⟨rc0w1, rc1w1, rfw1, rzw1, rzw11, rnw11, rzw12, rnw12, rzw13, rnw13, rzw14, rnw14⟩ : Zc2 w1 (w.heap.size + 1) 0 0 := zq153
 have hx1a := hide1 ((((hx1.alloc (.cells #[.int .i64 pa1, .int .i64 n1] 231)).alloc (.cells #[.int .i64 pa2, .int .i64 n2] 231)).alloc (.cells #[.int .i64 (-1), .int .i64 0] 118)).alloc (.cells #[.int .i64 (-1), .int .i64 0] 118))
 go_wp2_with (first | (go_at_call 82; refine (x_none _ _ _).mono ?_; rintro o wn ⟨rfl, rfl⟩))
 refine (R1.out _ hx1a).mono ?_
 rintro o w2 ⟨rfl, hx2, hk2⟩
 obtain ⟨ic0w2, ic1w2, ic2w2, ic3w2, ic4w2, ic5w2, ifw2, izw2, izw21, inw21, izw22, inw22, izw23, inw23, izw24, inw24⟩ : Zc6 w2 w.heap.size op rd rs1 rs2 im ln := zq154
 obtain ⟨rc0w2, rc1w2, rfw2, rzw2, rzw21, rnw21, rzw22, rnw22, rzw23, rnw23, rzw24, rnw24⟩ : Zc2 w2 (w.heap.size + 1) 0 0 := zq155
 obtain ⟨fc0w2, fc1w2, ffw2, fzw2, fzw21, fnw21, fzw22, fnw22, fzw23, fnw23, fzw24, fnw24⟩ : Zc2 w2 w1.heap.size pa1 n1 := zq156
 obtain ⟨sc0w2, sc1w2, sfw2, szw2, szw21, snw21, szw22, snw22, szw23, snw23, szw24, snw24⟩ : Zc2 w2 (w1.heap.size + 1) pa2 n2 := zq157
 go_wp2_with fail
 refine (R2.out _ (hide1 hx2)).mono ?_
 rintro o w3 ⟨rfl, hx3, hk3⟩
 exact zq270
theorem x_load_y2s (mb rb X) (hX : XOk X) (i : NI) (hi : NIOk i) (hf : (reachD X.b (xC X) (vaD X i) (nD i.op) 1).1.fault = 0) (h2 : 0 < (reachD X.b (xC X) (vaD X i) (nD i.op) 1).1.n2) (hs : i.op = 11 \/ i.op = 12) (w) (hw : Hid (XAt w mb rb X)) :
 CX 199 #[.pointer (some ⟨mb, 0, none⟩), niV i] (excA (ldX X i).1.1 (ldX X i).1.2) [mb, rb] mb rb ((ldX X i).2) w := by
 have hlt := hw.out.lt
 have hrlt := hw.out.rlt
 have hlt' : ¬ mb = w.heap.size := by omega
 have i0 := hi.im0
 have i1 := hi.im1
 have ha := hX.xr i.rs1
 have A1 := hide1 (fun W h => x_register mb rb X i.rs1 hi.rs1 W h)
 have hwa : Hid (XAt ((w.alloc (niC i)).alloc (.cells #[.int .i64 0, .int .i64 0] 118)) mb rb X) := zq22
 have hva : vaD X i < 4294967296 := zq51
 have hnn := nD_le i.op
 have RE := hide1 (fun W h => x_reach mb rb X hX (vaD X i) (nD i.op) 1 hva hnn.1 hnn.2 (.inr (.inl rfl)) W h)
 have AS : Hid (∀ W, CS 268 #[.int .i64 i.op] (.int .i64 (nD i.op)) W) := zq52
 have WD : Hid (∀ W, CS 135 #[.int .i64 ((X.x.getD i.rs1 0 : Int) + i.im)] (.int .i64 (vaD X i)) W) := zq53
 have wr : IntKind.i64.wrap ((X.x.getD i.rs1 0 : Int) + i.im) = (X.x.getD i.rs1 0 : Int) + i.im := zq9
 have hok := reach_ok hX.b (xC X) (vaD X i) (nD i.op) 1
 have hsp := reach_sp X.b (xC X) (vaD X i) (nD i.op) 1 hva hnn.1
 have htk := reach_takes X.b (xC X) (vaD X i) (nD i.op) 1
 have hle := reach_len X.b (xC X) (vaD X i) (nD i.op) 1
 unfold ldX ldF
 obtain ⟨S, hS⟩ := zn1 (reachD X.b (xC X) (vaD X i) (nD i.op) 1)
 simp only [<- hS] at RE hok hsp htk hle hf h2 |-
 obtain ⟨va, hvv⟩ := zn1 (vaD X i)
 obtain ⟨n, hnv⟩ := zn1 (nD i.op)
 obtain ⟨a, hae⟩ := zn1 (X.x.getD i.rs1 0)
 simp only [<- hvv] at RE WD
 simp only [<- hnv] at RE AS hsp hnn
 simp only [<- hae] at A1 WD wr ha
 clear hS hvv hae
 obtain ⟨⟨pa1, n1, pa2, n2, ft, wh⟩, B⟩ := S
 have hXB := XS.okB hX hok
 rw [<- hle] at htk
 dsimp only at RE hok hsp htk hle hf h2 hXB |-
 rw [if_pos hf]
 subst hf
 have htk := htk rfl
 have hx32 := hX.x
 have hrd := hi.rd
 have sp1 := hsp.n1 rfl
 have sps := hsp.sum rfl
 have spp1 := hsp.pa1
 have spp2 := hsp.pa2
 dsimp only at sp1 sps spp1 spp2
 unfold niC at hwa
 unfold niV
 rw [show spV ⟨pa1, n1, pa2, n2, 0, wh⟩ 1 = .tuple #[.agg #[.int .i64 pa1, .int .i64 n1], .agg #[.int .i64 pa2, .int .i64 n2], .agg #[.int .i64 (-1), .int .i64 0]] from rfl] at RE
 have R1 := hide1 (fun W h => x_read mb rb (X.withB B) hok pa1 n1 spp1 sp1 (by omega) htk.1 W h)
 have r1ok := readD_ok hok pa1 n1
 have r1lt := readD_lt hok pa1 n1 sp1
 have r1len := readD_len B pa1 n1
 have eB : (X.withB B).b = B := rfl
 rw [eB] at R1
 have R2 := hide1 (fun W h => x_read mb rb (X.withB (readD B pa1 n1).2) r1ok pa2 n2 spp2 (by omega) (by omega) zq492 W h)
 have r2lt := readD_lt r1ok pa2 n2 (by omega)
 rw [show (X.withB (readD B pa1 n1).2).b = (readD B pa1 n1).2 from rfl] at R2
 unfold loadD
 dsimp only
 rw [if_pos h2]
 obtain ⟨T1, hT1⟩ := zn1 (readD B pa1 n1)
 simp only [<- hT1] at R1 r1ok r1lt R2 r2lt |-
 clear hT1
 obtain ⟨u, B1⟩ := T1
 have hBB : (X.withB B).withB B1 = X.withB B1 := rfl
 rw [hBB] at R1
 obtain ⟨T2, hT2⟩ := zn1 (readD B1 pa2 n2)
 simp only [<- hT2] at R2 r2lt |-
 clear hT2
 obtain ⟨v, B2⟩ := T2
 have hBB2 : (X.withB B1).withB B2 = X.withB B2 := rfl
 rw [hBB2] at R2
 obtain ⟨s, hse⟩ := zn1 (8 * n1)
 have hs64 : s <= 32 := by omega
 have e8 : (8 : Int) * (n1 : Int) = (s : Int) := by omega
 have hp := mul_pow256 u v n1 n2 n r1lt r2lt sps hnn.2
 have epow : (2 : Int) ^ s = ((256 ^ n1 : Nat) : Int) := by
  have e1 : (2 : Nat) ^ (8 * n1) = 256 ^ n1 := by rw [Nat.pow_mul]
  rw [hse, <- e1]; simp
 obtain ⟨z, hz⟩ := zn1 (v * 256 ^ n1)
 have hzl : u + z < 4294967296 := by rw [hz]; exact hp
 have wv : wrap64 ((v : Int) * 2 ^ s) = (z : Int) := by
  rw [hz]
  rw [epow, <- Int.natCast_mul]
  exact wrap_small _ zq493 zq494
 obtain ⟨V, hV⟩ := zn1 ((u + v * 256 ^ n1))
 have hVl : V < 4294967296 := by rw [hV]; exact hp
 have SR := hide1 (fun W h => x_setRegister mb rb (X.withB B2) hx32 i.rd (ldvD i.op (u + v * 256 ^ n1)) hrd W h)
 have EX : Hid (∀ W, CS 270 #[.int .i64 V, .int .i64 (nD i.op)] (.int .i64 (xextD V (xaccD i.op))) W) := zq73
 have W2 := hide1 (x_word (xextD V (xaccD i.op)))
 have eL : ldvD i.op V = wordN (xextD V (xaccD i.op)) := by unfold ldvD; rw [if_pos hs]
 rw [<- hV] at SR |-
 rw [<- hnv] at EX
 rw [eL] at SR |-
 obtain ⟨xv, hxv⟩ := zn1 (xextD V (xaccD i.op))
 simp only [<- hxv] at EX W2 SR |-
 obtain ⟨yv, hyv⟩ := zn1 (wordN xv)
 simp only [<- hyv] at W2 SR |-
 have eV : (u : Int) + (z : Int) = (V : Int) := by rw [hV, hz]; simp
 obtain ⟨op, rd, rs1, rs2, im, ln⟩ := i
 dsimp only at *
 unfold excA
 clear hw hX hi htk hsp hle hok hXB hnv hnn hva hse hV hp eL r1ok r1lt r1len epow r2lt h2 hz hxv hyv hx32 hrd sps
 rcases hs with hs | hs
 . have q11 : (op == 11) = true := by simp [hs]
   have q12 : (op == 12) = false := by simp [hs]
   exact zq272
 . have q11 : (op == 11) = false := by simp [hs]
   have q12 : (op == 12) = true := by simp [hs]
   exact zq272
theorem x_load (mb rb X) (hX : XOk X) (i : NI) (hi : NIOk i) (w) (hw : Hid (XAt w mb rb X)) :
 CX 199 #[.pointer (some ⟨mb, 0, none⟩), niV i] (excA (ldX X i).1.1 (ldX X i).1.2) [mb, rb] mb rb ((ldX X i).2) w := by
 by_cases hf : (reachD X.b (xC X) (vaD X i) (nD i.op) 1).1.fault = 0
 . by_cases h2 : (reachD X.b (xC X) (vaD X i) (nD i.op) 1).1.n2 = 0
   . by_cases h11 : i.op = 11 \/ i.op = 12
     . exact x_load_y1s mb rb X hX i hi hf h2 h11 w hw
     exact x_load_y1u mb rb X hX i hi hf h2 h11 w hw
   . by_cases h11 : i.op = 11 \/ i.op = 12
     . exact x_load_y2s mb rb X hX i hi hf (Nat.pos_of_ne_zero h2) h11 w hw
     exact x_load_y2u mb rb X hX i hi hf (Nat.pos_of_ne_zero h2) h11 w hw
 . exact x_load_f mb rb X hX i hi hf w hw
def stF (X : XS) (i : NI) (S : Spn × BusS) : (Int × Nat) × XS :=
 if S.1.fault = 0 then ((-1, 0), X.withB (storeD S.2 S.1 (X.x.getD i.rs2 0))) else ((xfauD S.1.fault 2, S.1.wh), X.withB S.2)
def stX (X : XS) (i : NI) : (Int × Nat) × XS := stF X i (reachD X.b (xC X) (vaD X i) (nD i.op) 2)
theorem x_store_f (mb rb X) (hX : XOk X) (i : NI) (hi : NIOk i) (hf : (reachD X.b (xC X) (vaD X i) (nD i.op) 2).1.fault ≠ 0) (w) (hw : Hid (XAt w mb rb X)) :
 CX 200 #[.pointer (some ⟨mb, 0, none⟩), niV i] (excA (stX X i).1.1 (stX X i).1.2) [mb, rb] mb rb ((stX X i).2) w := by
 have hlt := hw.out.lt
 have hrlt := hw.out.rlt
 have hlt' : ¬ mb = w.heap.size := by omega
 have i0 := hi.im0
 have i1 := hi.im1
 have ha := hX.xr i.rs1
 have A1 := hide1 (fun W h => x_register mb rb X i.rs1 hi.rs1 W h)
 have hwa : Hid (XAt ((w.alloc (niC i)).alloc (.cells #[.int .i64 0, .int .i64 0] 118)) mb rb X) := zq22
 have hva : vaD X i < 4294967296 := zq51
 have hnn := nD_le i.op
 have RE := hide1 (fun W h => x_reach mb rb X hX (vaD X i) (nD i.op) 2 hva hnn.1 hnn.2 (.inr (.inr rfl)) W h)
 have AS : Hid (∀ W, CS 268 #[.int .i64 i.op] (.int .i64 (nD i.op)) W) := zq52
 have WD : Hid (∀ W, CS 135 #[.int .i64 ((X.x.getD i.rs1 0 : Int) + i.im)] (.int .i64 (vaD X i)) W) := zq53
 have wr : IntKind.i64.wrap ((X.x.getD i.rs1 0 : Int) + i.im) = (X.x.getD i.rs1 0 : Int) + i.im := zq9
 have hok := reach_ok hX.b (xC X) (vaD X i) (nD i.op) 2
 have hsp := reach_sp X.b (xC X) (vaD X i) (nD i.op) 2 hva hnn.1
 have htk := reach_takes X.b (xC X) (vaD X i) (nD i.op) 2
 have hle := reach_len X.b (xC X) (vaD X i) (nD i.op) 2
 unfold stX stF
 obtain ⟨S, hS⟩ := zn1 (reachD X.b (xC X) (vaD X i) (nD i.op) 2)
 simp only [<- hS] at RE hok hsp htk hle hf |-
 obtain ⟨va, hvv⟩ := zn1 (vaD X i)
 obtain ⟨n, hnv⟩ := zn1 (nD i.op)
 obtain ⟨a, hae⟩ := zn1 (X.x.getD i.rs1 0)
 simp only [<- hvv] at RE WD
 simp only [<- hnv] at RE AS hsp hnn
 simp only [<- hae] at A1 WD wr ha
 clear hS hvv hae
 obtain ⟨⟨pa1, n1, pa2, n2, ft, wh⟩, B⟩ := S
 have hXB := XS.okB hX hok
 rw [<- hle] at htk
 dsimp only at RE hok hsp htk hle hf hXB |-
 rw [if_neg hf]
 unfold niC at hwa
 unfold niV
 obtain ⟨op, rd, rs1, rs2, im, ln⟩ := i
 dsimp only at *
 rw [show spV ⟨pa1, n1, pa2, n2, ft, wh⟩ 2 = .tuple #[.agg #[.int .i64 0, .int .i64 0], .agg #[.int .i64 0, .int .i64 0], .agg #[.int .i64 (xfauD ft 2), .int .i64 wh]] by unfold spV; dsimp only; rw [if_neg hf]; rfl] at RE
 have hn := xfau_ne ft 2
 obtain ⟨c, hc⟩ := zn1 (xfauD ft 2)
 simp only [<- hc] at RE hn |-
 unfold excA
 clear hw hX hi hc hf htk hsp hle hok hXB hnv hnn hva
 go_enter func200, ntmps200
 go_upto_region 1 with fail
 go_quiet ((first | (go_at_call 39; first | exact Calls.quiet_of_same (A1.out _ hwa) | exact Calls.quiet_of_same (A1.out _ (hide1 (hwa.out.drewN _))) | exact Calls.quiet_of_same (A1.out _ (hide1 hwa.out.drew))) | (go_at_call 135; exact Calls.quiet_of_same (WD.out _))))
 go_wp2_with (go_at_call 268; refine (AS.out _).mono ?_; rintro o w2 ⟨rfl, rfl⟩)
 refine (RE.out _ (hide1 (hwa.out.drewN _))).mono ?_
 rintro o w1 ⟨rfl, hx1, hk1⟩
 obtain ⟨rc0w1, rc1w1, rfw1, rzw1, rzw11, rnw11, rzw12, rnw12, rzw13, rnw13, rzw14, rnw14⟩ : Zc2 w1 (w.heap.size + 1) 0 0 := zq153
 go_wp2_with (first | (go_at_call 82; refine (x_none _ _ _).mono ?_; rintro o wn ⟨rfl, rfl⟩))
 refine bodyPost_ret (v := .agg #[.int .i64 c, .int .i64 wh]) (by simp [results, results200, go_sem, rc0w1, rc1w1, rzw1, rzw11, rnw11, rzw12, rnw12, rzw13, rnw13, rzw14, rnw14, Nat.ne_of_lt, Nat.ne_of_gt]) rfl ⟨rfl, hx1.box (w.heap.size + 1) ?_ (by omega) (by omega), ?_⟩
 . exact zq268
 . exact zq269
theorem x_store_y1 (mb rb X) (hX : XOk X) (i : NI) (hi : NIOk i) (hf : (reachD X.b (xC X) (vaD X i) (nD i.op) 2).1.fault = 0) (h2 : (reachD X.b (xC X) (vaD X i) (nD i.op) 2).1.n2 = 0) (w) (hw : Hid (XAt w mb rb X)) :
 CX 200 #[.pointer (some ⟨mb, 0, none⟩), niV i] (excA (stX X i).1.1 (stX X i).1.2) [mb, rb] mb rb ((stX X i).2) w := by
 have hlt := hw.out.lt
 have hrlt := hw.out.rlt
 have hlt' : ¬ mb = w.heap.size := by omega
 have i0 := hi.im0
 have i1 := hi.im1
 have ha := hX.xr i.rs1
 have A1 := hide1 (fun W h => x_register mb rb X i.rs1 hi.rs1 W h)
 have hwa : Hid (XAt ((w.alloc (niC i)).alloc (.cells #[.int .i64 0, .int .i64 0] 118)) mb rb X) := zq22
 have hva : vaD X i < 4294967296 := zq51
 have hnn := nD_le i.op
 have RE := hide1 (fun W h => x_reach mb rb X hX (vaD X i) (nD i.op) 2 hva hnn.1 hnn.2 (.inr (.inr rfl)) W h)
 have AS : Hid (∀ W, CS 268 #[.int .i64 i.op] (.int .i64 (nD i.op)) W) := zq52
 have WD : Hid (∀ W, CS 135 #[.int .i64 ((X.x.getD i.rs1 0 : Int) + i.im)] (.int .i64 (vaD X i)) W) := zq53
 have wr : IntKind.i64.wrap ((X.x.getD i.rs1 0 : Int) + i.im) = (X.x.getD i.rs1 0 : Int) + i.im := zq9
 have hok := reach_ok hX.b (xC X) (vaD X i) (nD i.op) 2
 have hsp := reach_sp X.b (xC X) (vaD X i) (nD i.op) 2 hva hnn.1
 have htk := reach_takes X.b (xC X) (vaD X i) (nD i.op) 2
 have hle := reach_len X.b (xC X) (vaD X i) (nD i.op) 2
 unfold stX stF
 obtain ⟨S, hS⟩ := zn1 (reachD X.b (xC X) (vaD X i) (nD i.op) 2)
 simp only [<- hS] at RE hok hsp htk hle hf h2 |-
 obtain ⟨va, hvv⟩ := zn1 (vaD X i)
 obtain ⟨n, hnv⟩ := zn1 (nD i.op)
 obtain ⟨a, hae⟩ := zn1 (X.x.getD i.rs1 0)
 simp only [<- hvv] at RE WD
 simp only [<- hnv] at RE AS hsp hnn
 simp only [<- hae] at A1 WD wr ha
 clear hS hvv hae
 obtain ⟨⟨pa1, n1, pa2, n2, ft, wh⟩, B⟩ := S
 have hXB := XS.okB hX hok
 rw [<- hle] at htk
 dsimp only at RE hok hsp htk hle hf h2 hXB |-
 rw [if_pos hf]
 subst hf
 have htk := htk rfl
 have hb := hX.xr i.rs2
 have sp1 := hsp.n1 rfl
 have sps := hsp.sum rfl
 have spp1 := hsp.pa1
 have spp2 := hsp.pa2
 dsimp only at sp1 sps spp1 spp2
 subst h2
 unfold niC at hwa
 unfold niV
 rw [show spV ⟨pa1, n1, pa2, 0, 0, wh⟩ 2 = .tuple #[.agg #[.int .i64 pa1, .int .i64 n1], .agg #[.int .i64 pa2, .int .i64 0], .agg #[.int .i64 (-1), .int .i64 0]] from rfl] at RE
 have AR := hide1 (fun W h => x_register mb rb (X.withB B) i.rs2 hi.rs2 W h)
 have eX : (X.withB B).x = X.x := rfl
 rw [eX] at AR
 obtain ⟨v, hve⟩ := zn1 (X.x.getD i.rs2 0)
 simp only [<- hve] at AR hb |-
 have R1 := hide1 (fun W h => x_write mb rb (X.withB B) hok pa1 n1 v spp1 sp1 (by omega) hb htk.1 W h)
 have r1ok := writeD_ok hok pa1 n1 v hb
 have r1len := writeD_len B pa1 n1 v
 have eB : (X.withB B).b = B := rfl
 rw [eB] at R1
 unfold storeD
 dsimp only
 rw [if_neg (by omega)]
 obtain ⟨B1, hT1⟩ := zn1 (writeD B pa1 n1 v)
 simp only [<- hT1] at R1 r1ok  |-
 clear hT1
 have hBB : (X.withB B).withB B1 = X.withB B1 := rfl
 rw [hBB] at R1
 obtain ⟨s, hse⟩ := zn1 (8 * n1)
 have hs64 : s <= 32 := by omega
 have e8 : (8 : Int) * (n1 : Int) = (s : Int) := by omega
 have we8 : IntKind.i64.wrap (s : Int) = (s : Int) := zq9
 have epow : (2 : Int) ^ s = ((256 ^ n1 : Nat) : Int) := by
  have e1 : (2 : Nat) ^ (8 * n1) = 256 ^ n1 := by rw [Nat.pow_mul]
  rw [hse, <- e1]; simp
 obtain ⟨z, hz⟩ := zn1 (v / 256 ^ n1)
 have sh : (v : Int) / 2 ^ s = (z : Int) := by rw [epow, hz]; simp
 obtain ⟨op, rd, rs1, rs2, im, ln⟩ := i
 dsimp only at *
 unfold excA
 clear hw hX hi htk hsp hle hok hXB hnv hnn hva hse hz epow r1ok r1len hve sps hb
 go_enter func200, ntmps200
 go_upto_region 1 with fail
 go_quiet ((first | (go_at_call 39; first | exact Calls.quiet_of_same (A1.out _ hwa) | exact Calls.quiet_of_same (A1.out _ (hide1 (hwa.out.drewN _))) | exact Calls.quiet_of_same (A1.out _ (hide1 hwa.out.drew))) | (go_at_call 135; exact Calls.quiet_of_same (WD.out _))))
 go_wp2_with (go_at_call 268; refine (AS.out _).mono ?_; rintro o w2 ⟨rfl, rfl⟩)
 refine (RE.out _ (hide1 (hwa.out.drewN _))).mono ?_
 rintro o w1 ⟨rfl, hx1, hk1⟩
 obtain ⟨ic0w1, ic1w1, ic2w1, ic3w1, ic4w1, ic5w1, ifw1, izw1, izw11, inw11, izw12, inw12, izw13, inw13, izw14, inw14⟩ : Zc6 w1 w.heap.size op rd rs1 rs2 im ln := zq152
 obtain ⟨rc0w1, rc1w1, rfw1, rzw1, rzw11, rnw11, rzw12, rnw12, rzw13, rnw13, rzw14, rnw14⟩ : Zc2 w1 (w.heap.size + 1) 0 0 := zq153
 have hx1a := hide1 ((((hx1.alloc (.cells #[.int .i64 pa1, .int .i64 n1] 231)).alloc (.cells #[.int .i64 pa2, .int .i64 0] 231)).alloc (.cells #[.int .i64 (-1), .int .i64 0] 118)).alloc (.cells #[.int .i64 (-1), .int .i64 0] 118))
 go_wp2_with (first | (go_at_call 82; refine (x_none _ _ _).mono ?_; rintro o wn ⟨rfl, rfl⟩) | (go_at_call 39; refine (AR.out _ hx1a).mono ?_; rintro o w5 ⟨rfl, rfl⟩))
 refine (R1.out _ hx1a).mono ?_
 rintro o w2 ⟨rfl, hx2, hk2⟩
 obtain ⟨rc0w2, rc1w2, rfw2, rzw2, rzw21, rnw21, rzw22, rnw22, rzw23, rnw23, rzw24, rnw24⟩ : Zc2 w2 (w.heap.size + 1) 0 0 := zq155
 obtain ⟨fc0w2, fc1w2, ffw2, fzw2, fzw21, fnw21, fzw22, fnw22, fzw23, fnw23, fzw24, fnw24⟩ : Zc2 w2 w1.heap.size pa1 n1 := zq156
 obtain ⟨sc0w2, sc1w2, sfw2, szw2, szw21, snw21, szw22, snw22, szw23, snw23, szw24, snw24⟩ : Zc2 w2 (w1.heap.size + 1) pa2 0 := zq157
 go_upto_region 7 with fail
 go_region_with (go_at_call 271; refine (x_write_0 mb pa2 _ _).mono ?_; rintro o w3 ⟨rfl, hk3⟩)
 all_goals
  have hx3 := hx2.drew.kept hk3
  obtain ⟨rc0w3, rc1w3, rfw3, rzw3, rzw31, rnw31, rzw32, rnw32, rzw33, rnw33, rzw34, rnw34⟩ : Zc2 w3 (w.heap.size + 1) 0 0 := zq159
  go_wp2_with (first | (go_at_call 198; refine (x_fine _).mono ?_; rintro o wn ⟨rfl, rfl⟩))
  refine bodyPost_ret (v := .agg #[.int .i64 (-1), .int .i64 0]) zq495 rfl ⟨rfl, hx3.box (w.heap.size + 1) ?_ (by omega) (by omega), ?_⟩
  . exact zq268
  . exact zq273
theorem x_store_y2 (mb rb X) (hX : XOk X) (i : NI) (hi : NIOk i) (hf : (reachD X.b (xC X) (vaD X i) (nD i.op) 2).1.fault = 0) (h2 : 0 < (reachD X.b (xC X) (vaD X i) (nD i.op) 2).1.n2) (w) (hw : Hid (XAt w mb rb X)) :
 CX 200 #[.pointer (some ⟨mb, 0, none⟩), niV i] (excA (stX X i).1.1 (stX X i).1.2) [mb, rb] mb rb ((stX X i).2) w := by
 have hlt := hw.out.lt
 have hrlt := hw.out.rlt
 have hlt' : ¬ mb = w.heap.size := by omega
 have i0 := hi.im0
 have i1 := hi.im1
 have ha := hX.xr i.rs1
 have A1 := hide1 (fun W h => x_register mb rb X i.rs1 hi.rs1 W h)
 have hwa : Hid (XAt ((w.alloc (niC i)).alloc (.cells #[.int .i64 0, .int .i64 0] 118)) mb rb X) := zq22
 have hva : vaD X i < 4294967296 := zq51
 have hnn := nD_le i.op
 have RE := hide1 (fun W h => x_reach mb rb X hX (vaD X i) (nD i.op) 2 hva hnn.1 hnn.2 (.inr (.inr rfl)) W h)
 have AS : Hid (∀ W, CS 268 #[.int .i64 i.op] (.int .i64 (nD i.op)) W) := zq52
 have WD : Hid (∀ W, CS 135 #[.int .i64 ((X.x.getD i.rs1 0 : Int) + i.im)] (.int .i64 (vaD X i)) W) := zq53
 have wr : IntKind.i64.wrap ((X.x.getD i.rs1 0 : Int) + i.im) = (X.x.getD i.rs1 0 : Int) + i.im := zq9
 have hok := reach_ok hX.b (xC X) (vaD X i) (nD i.op) 2
 have hsp := reach_sp X.b (xC X) (vaD X i) (nD i.op) 2 hva hnn.1
 have htk := reach_takes X.b (xC X) (vaD X i) (nD i.op) 2
 have hle := reach_len X.b (xC X) (vaD X i) (nD i.op) 2
 unfold stX stF
 obtain ⟨S, hS⟩ := zn1 (reachD X.b (xC X) (vaD X i) (nD i.op) 2)
 simp only [<- hS] at RE hok hsp htk hle hf h2 |-
 obtain ⟨va, hvv⟩ := zn1 (vaD X i)
 obtain ⟨n, hnv⟩ := zn1 (nD i.op)
 obtain ⟨a, hae⟩ := zn1 (X.x.getD i.rs1 0)
 simp only [<- hvv] at RE WD
 simp only [<- hnv] at RE AS hsp hnn
 simp only [<- hae] at A1 WD wr ha
 clear hS hvv hae
 obtain ⟨⟨pa1, n1, pa2, n2, ft, wh⟩, B⟩ := S
 have hXB := XS.okB hX hok
 rw [<- hle] at htk
 dsimp only at RE hok hsp htk hle hf h2 hXB |-
 rw [if_pos hf]
 subst hf
 have htk := htk rfl
 have hb := hX.xr i.rs2
 have sp1 := hsp.n1 rfl
 have sps := hsp.sum rfl
 have spp1 := hsp.pa1
 have spp2 := hsp.pa2
 dsimp only at sp1 sps spp1 spp2
 unfold niC at hwa
 unfold niV
 rw [show spV ⟨pa1, n1, pa2, n2, 0, wh⟩ 2 = .tuple #[.agg #[.int .i64 pa1, .int .i64 n1], .agg #[.int .i64 pa2, .int .i64 n2], .agg #[.int .i64 (-1), .int .i64 0]] from rfl] at RE
 have AR := hide1 (fun W h => x_register mb rb (X.withB B) i.rs2 hi.rs2 W h)
 have eX : (X.withB B).x = X.x := rfl
 rw [eX] at AR
 obtain ⟨v, hve⟩ := zn1 (X.x.getD i.rs2 0)
 simp only [<- hve] at AR hb |-
 have R1 := hide1 (fun W h => x_write mb rb (X.withB B) hok pa1 n1 v spp1 sp1 (by omega) hb htk.1 W h)
 have r1ok := writeD_ok hok pa1 n1 v hb
 have r1len := writeD_len B pa1 n1 v
 have eB : (X.withB B).b = B := rfl
 rw [eB] at R1
 have hvl : v / 256 ^ n1 < 4294967296 := Nat.lt_of_le_of_lt (Nat.div_le_self _ _) hb
 have R2 := hide1 (fun W h => x_write mb rb (X.withB (writeD B pa1 n1 v)) r1ok pa2 n2 (v / 256 ^ n1) spp2 (by omega) (by omega) hvl (by rw [show (X.withB (writeD B pa1 n1 v)).b = writeD B pa1 n1 v from rfl, r1len]; exact htk.2 h2) W h)
 rw [show (X.withB (writeD B pa1 n1 v)).b = writeD B pa1 n1 v from rfl] at R2
 unfold storeD
 dsimp only
 rw [if_pos h2]
 obtain ⟨B1, hT1⟩ := zn1 (writeD B pa1 n1 v)
 simp only [<- hT1] at R1 r1ok R2 |-
 clear hT1
 have hBB : (X.withB B).withB B1 = X.withB B1 := rfl
 rw [hBB] at R1
 obtain ⟨s, hse⟩ := zn1 (8 * n1)
 have hs64 : s <= 32 := by omega
 have e8 : (8 : Int) * (n1 : Int) = (s : Int) := by omega
 have we8 : IntKind.i64.wrap (s : Int) = (s : Int) := zq9
 have epow : (2 : Int) ^ s = ((256 ^ n1 : Nat) : Int) := by
  have e1 : (2 : Nat) ^ (8 * n1) = 256 ^ n1 := by rw [Nat.pow_mul]
  rw [hse, <- e1]; simp
 obtain ⟨z, hz⟩ := zn1 (v / 256 ^ n1)
 have sh : (v : Int) / 2 ^ s = (z : Int) := by rw [epow, hz]; simp
 simp only [<- hz] at R2 hvl |-
 obtain ⟨B2, hB2⟩ := zn1 (writeD B1 pa2 n2 z)
 simp only [<- hB2] at R2 |-
 have hBB2 : (X.withB B1).withB B2 = X.withB B2 := rfl
 rw [hBB2] at R2
 obtain ⟨op, rd, rs1, rs2, im, ln⟩ := i
 dsimp only at *
 unfold excA
 clear hw hX hi htk hsp hle hok hXB hnv hnn hva hse hz epow r1ok r1len hve sps hb h2 hvl hB2
 go_enter func200, ntmps200
 go_upto_region 1 with fail
 go_quiet ((first | (go_at_call 39; first | exact Calls.quiet_of_same (A1.out _ hwa) | exact Calls.quiet_of_same (A1.out _ (hide1 (hwa.out.drewN _))) | exact Calls.quiet_of_same (A1.out _ (hide1 hwa.out.drew))) | (go_at_call 135; exact Calls.quiet_of_same (WD.out _))))
 go_wp2_with (go_at_call 268; refine (AS.out _).mono ?_; rintro o w2 ⟨rfl, rfl⟩)
 refine (RE.out _ (hide1 (hwa.out.drewN _))).mono ?_
 rintro o w1 ⟨rfl, hx1, hk1⟩
 obtain ⟨ic0w1, ic1w1, ic2w1, ic3w1, ic4w1, ic5w1, ifw1, izw1, izw11, inw11, izw12, inw12, izw13, inw13, izw14, inw14⟩ : Zc6 w1 w.heap.size op rd rs1 rs2 im ln := zq152
 obtain ⟨rc0w1, rc1w1, rfw1, rzw1, rzw11, rnw11, rzw12, rnw12, rzw13, rnw13, rzw14, rnw14⟩ : Zc2 w1 (w.heap.size + 1) 0 0 := zq153
 have hx1a := hide1 ((((hx1.alloc (.cells #[.int .i64 pa1, .int .i64 n1] 231)).alloc (.cells #[.int .i64 pa2, .int .i64 n2] 231)).alloc (.cells #[.int .i64 (-1), .int .i64 0] 118)).alloc (.cells #[.int .i64 (-1), .int .i64 0] 118))
 go_wp2_with (first | (go_at_call 82; refine (x_none _ _ _).mono ?_; rintro o wn ⟨rfl, rfl⟩) | (go_at_call 39; refine (AR.out _ hx1a).mono ?_; rintro o w5 ⟨rfl, rfl⟩))
 refine (R1.out _ hx1a).mono ?_
 rintro o w2 ⟨rfl, hx2, hk2⟩
 obtain ⟨rc0w2, rc1w2, rfw2, rzw2, rzw21, rnw21, rzw22, rnw22, rzw23, rnw23, rzw24, rnw24⟩ : Zc2 w2 (w.heap.size + 1) 0 0 := zq155
 obtain ⟨fc0w2, fc1w2, ffw2, fzw2, fzw21, fnw21, fzw22, fnw22, fzw23, fnw23, fzw24, fnw24⟩ : Zc2 w2 w1.heap.size pa1 n1 := zq156
 obtain ⟨sc0w2, sc1w2, sfw2, szw2, szw21, snw21, szw22, snw22, szw23, snw23, szw24, snw24⟩ : Zc2 w2 (w1.heap.size + 1) pa2 n2 := zq157
 go_upto_region 7 with fail
 go_region_with (go_at_call 271; refine (R2.out _ (hide1 hx2.drew)).mono ?_; rintro o w3 ⟨rfl, hx3, hk3⟩)
 all_goals
  obtain ⟨rc0w3, rc1w3, rfw3, rzw3, rzw31, rnw31, rzw32, rnw32, rzw33, rnw33, rzw34, rnw34⟩ : Zc2 w3 (w.heap.size + 1) 0 0 := zq159
  go_wp2_with (first | (go_at_call 198; refine (x_fine _).mono ?_; rintro o wn ⟨rfl, rfl⟩))
  refine bodyPost_ret (v := .agg #[.int .i64 (-1), .int .i64 0]) zq495 rfl ⟨rfl, hx3.box (w.heap.size + 1) ?_ (by omega) (by omega), ?_⟩
  . exact zq268
  . exact zq273
theorem x_store (mb rb X) (hX : XOk X) (i : NI) (hi : NIOk i) (w) (hw : Hid (XAt w mb rb X)) :
 CX 200 #[.pointer (some ⟨mb, 0, none⟩), niV i] (excA (stX X i).1.1 (stX X i).1.2) [mb, rb] mb rb ((stX X i).2) w := by
 by_cases hf : (reachD X.b (xC X) (vaD X i) (nD i.op) 2).1.fault = 0
 . by_cases h2 : (reachD X.b (xC X) (vaD X i) (nD i.op) 2).1.n2 = 0
   . exact x_store_y1 mb rb X hX i hi hf h2 w hw
   . exact x_store_y2 mb rb X hX i hi hf (Nat.pos_of_ne_zero h2) w hw
 . exact x_store_f mb rb X hX i hi hf w hw
def lrX (X : XS) (i : NI) (pa p : Nat) : XS := { setXR X i.rd (rdRam X.b p 4) with resd := true, resv := pa }
def scB (X : XS) (pa : Nat) : Bool := !X.resd || !decide (X.resv = pa)
def scX (X : XS) (i : NI) (pa p : Nat) : XS := unresX (setXR (bif scB X pa then X else setRam X (stN X.b.ram p 4 (X.x.getD i.rs2 0))) i.rd (scB X pa).toNat)
def amoX (X : XS) (i : NI) (p : Nat) : XS := setXR (setRam X (stN X.b.ram p 4 (alu i.op (rdRam X.b p 4) (X.x.getD i.rs2 0)))) i.rd (rdRam X.b p 4)
theorem rd4_lt (B : BusS) (p : Nat) : rdRam B p 4 < 4294967296 := rdRam_lt B p 4
theorem alu_lt (op : Int) (a b : Nat) (ha : a < 4294967296) (hb : b < 4294967296) (h0 : 52 <= op) (h1 : op <= 60) : alu op a b < 4294967296 := by
 have h : op = 52 \/ op = 53 \/ op = 54 \/ op = 55 \/ op = 56 \/ op = 57 \/ op = 58 \/ op = 59 \/ op = 60 := by omega
 rcases h with rfl | rfl | rfl | rfl | rfl | rfl | rfl | rfl | rfl
 . exact hb
 . show (a + b) % 4294967296 < _; omega
 . exact Nat.xor_lt_two_pow (n := 32) ha hb
 . exact Nat.lt_of_le_of_lt Nat.and_le_left ha
 . exact nat_or_lt a b 32 ha hb
 . show (if sgn a < sgn b then a else b) < _; split <;> assumption
 . show (if sgn b < sgn a then a else b) < _; split <;> assumption
 . show (if a < b then a else b) < _; split <;> assumption
 . show (if b < a then a else b) < _; split <;> assumption
theorem x_loadReserved (mb rb X) (hX : XOk X) (i : NI) (hi : NIOk i) (pa p : Nat) (hp : pa = 2147483648 + p) (hl : p + 4 <= X.b.ram.length) (w) (hw : Hid (XAt w mb rb X)) :
 CX 275 #[.pointer (some ⟨mb, 0, none⟩), niV i, .int .i64 pa] (.tuple #[]) [mb, rb] mb rb (lrX X i pa p) w := by
 have hlt := hw.out.lt
 have hrlt := hw.out.rlt
 have hlt' : ¬ mb = w.heap.size := by omega
 have hram := hX.b.ram
 have hwa : Hid (XAt (w.alloc (niC i)) mb rb X) := zq10
 unfold niC at hwa
 have RN : Hid (∀ W, Hid (XAt W mb rb X) -> CS 262 #[.pointer (some ⟨mb, 0, none⟩), .int .i64 pa, .int .i64 4] (.int .i64 (rdRam X.b p 4)) W) := zq74
 have SR := hide1 (fun W h => x_setRegister mb rb X hX.x i.rd (rdRam X.b p 4) hi.rd W h)
 have RV := hide1 (fun W h => x_reserve mb rb (setXR X i.rd (rdRam X.b p 4)) pa W h)
 unfold lrX
 obtain ⟨v, hv⟩ := zn1 (rdRam X.b p 4)
 simp only [<- hv] at RN SR RV |-
 unfold niV
 obtain ⟨op, rd, rs1, rs2, im, ln⟩ := i
 dsimp only at *
 clear hw hX hi hv hp hl hram
 go_enter func275, ntmps275
 go_wp2_with fail
 refine (RN.out _ hwa).mono ?_
 rintro o w1 ⟨rfl, rfl⟩
 go_wp2_with fail
 refine (SR.out _ hwa).mono ?_
 rintro o w1 ⟨rfl, hx1, hk1⟩
 go_wp2_with fail
 refine (RV.out _ (hide1 hx1)).mono ?_
 exact zq274
theorem x_modify (mb rb X) (hX : XOk X) (i : NI) (hi : NIOk i) (pa p : Nat) (hp : pa = 2147483648 + p) (hl : p + 4 <= X.b.ram.length) (hop : 52 <= i.op /\ i.op <= 60) (w) (hw : Hid (XAt w mb rb X)) :
 CX 277 #[.pointer (some ⟨mb, 0, none⟩), niV i, .int .i64 pa] (.tuple #[]) [mb, rb] mb rb (amoX X i p) w := by
 have hlt := hw.out.lt
 have hrlt := hw.out.rlt
 have hlt' : ¬ mb = w.heap.size := by omega
 have hram := hX.b.ram
 have hwa : Hid (XAt (w.alloc (niC i)) mb rb X) := zq10
 unfold niC at hwa
 have hb := hX.xr i.rs2
 have hv4 := rd4_lt X.b p
 have hal := alu_lt i.op _ _ hv4 hb hop.1 hop.2
 have RN : Hid (∀ W, Hid (XAt W mb rb X) -> CS 262 #[.pointer (some ⟨mb, 0, none⟩), .int .i64 pa, .int .i64 4] (.int .i64 (rdRam X.b p 4)) W) := zq74
 have A2 := hide1 (fun W h => x_register mb rb X i.rs2 hi.rs2 W h)
 have MD := hide1 (x_modified i.op hop.1 hop.2 _ _ hv4 hb)
 have SN : Hid (∀ W, Hid (XAt W mb rb X) -> CX 346 #[.pointer (some ⟨mb, 0, none⟩), .int .i64 pa, .int .i64 4, .int .i64 (alu i.op (rdRam X.b p 4) (X.x.getD i.rs2 0))] (.tuple #[]) [rb] mb rb (setRam X (stN X.b.ram p 4 (alu i.op (rdRam X.b p 4) (X.x.getD i.rs2 0)))) W) := hide1 (fun W h => x_setRamNumber_yes mb rb X hram pa p 4 (by omega) (by omega) (by omega) hl _ hal W h)
 have SR := hide1 (fun W h => x_setRegister mb rb (setRam X (stN X.b.ram p 4 (alu i.op (rdRam X.b p 4) (X.x.getD i.rs2 0)))) hX.x i.rd (rdRam X.b p 4) hi.rd W h)
 unfold amoX
 obtain ⟨v, hv⟩ := zn1 (rdRam X.b p 4)
 obtain ⟨b, hbe⟩ := zn1 (X.x.getD i.rs2 0)
 simp only [<- hv, <- hbe] at RN A2 MD SN SR |-
 obtain ⟨r, hr⟩ := zn1 (alu i.op v b)
 simp only [<- hr] at MD SN SR |-
 obtain ⟨Y, hY⟩ := zn1 (setRam X (stN X.b.ram p 4 r))
 simp only [<- hY] at SN SR |-
 unfold niV
 obtain ⟨op, rd, rs1, rs2, im, ln⟩ := i
 dsimp only at *
 clear hw hX hi hv hp hl hram hr hY hbe hb hv4 hal hop
 go_enter func277, ntmps277
 go_wp2_with (first | (go_at_call 262; refine (RN.out _ hwa).mono ?_; rintro o w1 ⟨rfl, rfl⟩) | (go_at_call 39; refine (A2.out _ hwa).mono ?_; rintro o w1 ⟨rfl, rfl⟩) | (go_at_call 349; refine (MD.out _).mono ?_; rintro o w1 ⟨rfl, rfl⟩))
 refine (SN.out _ hwa).mono ?_
 rintro o w1 ⟨rfl, hx1, hk1⟩
 obtain ⟨ic0w1, ic1w1, ic2w1, ic3w1, ic4w1, ic5w1, ifw1, izw1, izw11, inw11, izw12, inw12, izw13, inw13, izw14, inw14⟩ : Zc6 w1 w.heap.size op rd rs1 rs2 im ln := zq161
 go_wp2_with fail
 refine (SR.out _ (hide1 hx1)).mono ?_
 exact zq274
theorem x_sc_n (mb rb X) (hX : XOk X) (i : NI) (hi : NIOk i) (pa p : Nat) (hp : pa = 2147483648 + p) (hl : p + 4 <= X.b.ram.length) (hsc : scB X pa = true) (w) (hw : Hid (XAt w mb rb X)) :
 CX 276 #[.pointer (some ⟨mb, 0, none⟩), niV i, .int .i64 pa] (.tuple #[]) [mb, rb] mb rb (scX X i pa p) w := by
 have hlt := hw.out.lt
 have hrlt := hw.out.rlt
 have hlt' : ¬ mb = w.heap.size := by omega
 have hram := hX.b.ram
 have hwa : Hid (XAt (w.alloc (niC i)) mb rb X) := zq10
 unfold niC at hwa
 have hb := hX.xr i.rs2
 have c36 := hw.out.c36
 have c37 := hw.out.c37
 have A2 := hide1 (fun W h => x_register mb rb X i.rs2 hi.rs2 W h)
 have SN : Hid (∀ W, Hid (XAt W mb rb X) -> CX 346 #[.pointer (some ⟨mb, 0, none⟩), .int .i64 pa, .int .i64 4, .int .i64 (X.x.getD i.rs2 0)] (.tuple #[]) [rb] mb rb (setRam X (stN X.b.ram p 4 (X.x.getD i.rs2 0))) W) := zq77
 unfold scX
 rw [hsc]
 obtain ⟨Y, hY⟩ := zn1 ((bif true then X else setRam X (stN X.b.ram p 4 (X.x.getD i.rs2 0))))
 have hYx : Y.x.length = 32 := by rw [hY]; exact hX.x
 rw [<- hY]
 rw [show (setRam X (stN X.b.ram p 4 (X.x.getD i.rs2 0))) = setRam X (stN X.b.ram p 4 (X.x.getD i.rs2 0)) from rfl] at SN
 have SR : Hid (∀ W, Hid (XAt W mb rb Y) -> CX 197 #[.pointer (some ⟨mb, 0, none⟩), .int .i64 i.rd, .int .i64 ((true : Bool).toNat : Nat)] (.tuple #[]) [mb] mb rb (setXR Y i.rd (true : Bool).toNat) W) := hide1 (fun W h => x_setRegister mb rb Y hYx i.rd (true : Bool).toNat hi.rd W h)
 have UR := hide1 (fun W h => x_unreserve mb rb (setXR Y i.rd (true : Bool).toNat) W h)
 have OI : Hid (∀ W, CS 255 #[.bool true] (.int .i64 ((true : Bool).toNat : Nat)) W) := hide1 (fun W => x_oneIf true W)
 obtain ⟨b, hbe⟩ := zn1 (X.x.getD i.rs2 0)
 simp only [<- hbe] at A2 SN
 obtain ⟨fv, hfv⟩ := zn1 ((true : Bool).toNat)
 simp only [<- hfv] at SR UR OI |-
 unfold niV
 obtain ⟨op, rd, rs1, rs2, im, ln⟩ := i
 dsimp only at *
 have qs : (!X.resd || ((X.resv : Int) != pa)) = true := zq78
 obtain ⟨rs, hrs⟩ := zn1 (X.resd)
 obtain ⟨rv, hrv⟩ := zn1 (X.resv)
 rw [<- hrs] at c36 qs
 rw [<- hrv] at c37 qs
 have hYe : Y = X := hY
 subst hYe
 clear hY
 clear hw hX hi hp hl hram hbe hb hsc hYx hfv hrs hrv
 cases rs
 case false =>
  exact zq275
 case true =>
  have q : ((rv : Int) != pa) = true := by simpa using qs
  exact zq275
theorem x_sc_y (mb rb X) (hX : XOk X) (i : NI) (hi : NIOk i) (pa p : Nat) (hp : pa = 2147483648 + p) (hl : p + 4 <= X.b.ram.length) (hsc : scB X pa = false) (w) (hw : Hid (XAt w mb rb X)) :
 CX 276 #[.pointer (some ⟨mb, 0, none⟩), niV i, .int .i64 pa] (.tuple #[]) [mb, rb] mb rb (scX X i pa p) w := by
 have hlt := hw.out.lt
 have hrlt := hw.out.rlt
 have hlt' : ¬ mb = w.heap.size := by omega
 have hram := hX.b.ram
 have hwa : Hid (XAt (w.alloc (niC i)) mb rb X) := zq10
 unfold niC at hwa
 have hb := hX.xr i.rs2
 have c36 := hw.out.c36
 have c37 := hw.out.c37
 have A2 := hide1 (fun W h => x_register mb rb X i.rs2 hi.rs2 W h)
 have SN : Hid (∀ W, Hid (XAt W mb rb X) -> CX 346 #[.pointer (some ⟨mb, 0, none⟩), .int .i64 pa, .int .i64 4, .int .i64 (X.x.getD i.rs2 0)] (.tuple #[]) [rb] mb rb (setRam X (stN X.b.ram p 4 (X.x.getD i.rs2 0))) W) := zq77
 unfold scX
 rw [hsc]
 obtain ⟨Y, hY⟩ := zn1 ((bif false then X else setRam X (stN X.b.ram p 4 (X.x.getD i.rs2 0))))
 have hYx : Y.x.length = 32 := by rw [hY]; exact hX.x
 rw [<- hY]
 rw [show (setRam X (stN X.b.ram p 4 (X.x.getD i.rs2 0))) = (bif false then X else setRam X (stN X.b.ram p 4 (X.x.getD i.rs2 0))) from rfl] at SN
 have SR : Hid (∀ W, Hid (XAt W mb rb Y) -> CX 197 #[.pointer (some ⟨mb, 0, none⟩), .int .i64 i.rd, .int .i64 ((false : Bool).toNat : Nat)] (.tuple #[]) [mb] mb rb (setXR Y i.rd (false : Bool).toNat) W) := hide1 (fun W h => x_setRegister mb rb Y hYx i.rd (false : Bool).toNat hi.rd W h)
 have UR := hide1 (fun W h => x_unreserve mb rb (setXR Y i.rd (false : Bool).toNat) W h)
 have OI : Hid (∀ W, CS 255 #[.bool false] (.int .i64 ((false : Bool).toNat : Nat)) W) := hide1 (fun W => x_oneIf false W)
 obtain ⟨b, hbe⟩ := zn1 (X.x.getD i.rs2 0)
 simp only [<- hbe] at A2 SN
 obtain ⟨fv, hfv⟩ := zn1 ((false : Bool).toNat)
 simp only [<- hfv] at SR UR OI |-
 unfold niV
 obtain ⟨op, rd, rs1, rs2, im, ln⟩ := i
 dsimp only at *
 have qs : (!X.resd || ((X.resv : Int) != pa)) = false := zq78
 obtain ⟨rs, hrs⟩ := zn1 (X.resd)
 obtain ⟨rv, hrv⟩ := zn1 (X.resv)
 rw [<- hrs] at c36 qs
 rw [<- hrv] at c37 qs
 have hYe : (bif false then X else setRam X (stN X.b.ram p 4 b)) = Y := by rw [hY, hbe]
 simp only [hYe] at SN
 clear hY hYe
 clear hw hX hi hp hl hram hbe hb hsc hYx hfv hrs hrv
 cases rs
 case false =>
  simp at qs
 case true =>
  have q : ((rv : Int) != pa) = false := by simpa using qs
  clear qs
  go_enter func276, ntmps276
  go_wp2_with (go_at_call 39; refine (A2.out _ hwa).mono ?_; rintro o w1 ⟨rfl, rfl⟩)
  refine (SN.out _ hwa).mono ?_
  rintro o w1 ⟨rfl, hx1, hk1⟩
  obtain ⟨ic0w1, ic1w1, ic2w1, ic3w1, ic4w1, ic5w1, ifw1, izw1, izw11, inw11, izw12, inw12, izw13, inw13, izw14, inw14⟩ : Zc6 w1 w.heap.size op rd rs1 rs2 im ln := zq161
  go_upto_region 5 with fail
  go_region_with (first | (go_at_call 255; refine (OI.out _).mono ?_; rintro o w2 ⟨rfl, rfl⟩) | (go_at_call 197; refine (SR.out _ (hide1 hx1.drew)).mono ?_; rintro o w2 ⟨rfl, hx2, hk2⟩))
  all_goals
   go_wp2_with fail
   refine (UR.out _ (hide1 hx2)).mono ?_
   rintro o w3 ⟨rfl, hx3, hk3⟩
   go_wp2_with fail
   go_end0
   refine ⟨rfl, hx3, ?_⟩
   repeat (first | (with_reducible exact Kept.refl _ _) | (with_reducible refine Kept.setM ?_ _ _) | (with_reducible refine Kept.setCell ?_ (Or.inr zq469) _) | (with_reducible refine Kept.drew ?_) | (with_reducible refine Kept.drewN ?_ _) | (with_reducible refine Kept.alloc ?_ _) | (with_reducible refine Kept.trans ?_ (hk3.mono (by simp))) | (with_reducible refine Kept.trans ?_ (hk2.mono (by simp))) | (with_reducible refine Kept.trans ?_ (hk1.mono (by simp))))
end
end Go.Proofs.YtmlgonbhoknoiabGreatDoor
