import Derived.Test.YtmlgonbhoknoiabGreatDoorYAG
set_option maxHeartbeats 8000000
set_option linter.all false
namespace Go.Proofs.YtmlgonbhoknoiabGreatDoor
open Go.RowKit Go.Proofs.Tryz
section
attribute [local go_sem ↓] Go.wp_at_zero Go.wp_at_succ
theorem x_writeSuper_256 (mb rb X) (hX : XOk X) (v : Nat) (hv : v < 4294967296) (w) (hw : Hid (XAt w mb rb X)) :
 CX 350 #[.pointer (some ⟨mb, 38, none⟩), .int .i64 256, .int .i64 v] (.tuple #[]) [mb] mb rb ({ X with c := { X.c with mstatus := xmixD X.c.mstatus v 786722 } }) w := by
 have cc := hw.out.c38
 have hfr := hw.out.fro
 have hm := hX.mstatus
 have MX : Hid (∀ W, CS 259 #[.int .i64 X.c.mstatus, .int .i64 v, .int .i64 786722] (.int .i64 (xmixD X.c.mstatus v 786722)) W) := hide1 (fun W => x_mixed X.c.mstatus v 786722 (by omega) hv (by omega) W)
 obtain ⟨r, hr⟩ := zn1 (xmixD X.c.mstatus v 786722)
 simp only [<- hr] at MX |-
 clear hr
 clear hX
 go_enter func350, ntmps350
 go_wp2_with (go_at_call 259; refine (MX.out _).mono ?_; rintro o w1 ⟨rfl, rfl⟩)
 exact zq294
theorem x_writeSuper_260 (mb rb X) (hX : XOk X) (v : Nat) (hv : v < 4294967296) (w) (hw : Hid (XAt w mb rb X)) :
 CX 350 #[.pointer (some ⟨mb, 38, none⟩), .int .i64 260, .int .i64 v] (.tuple #[]) [mb] mb rb ({ X with c := { X.c with mie := xmixD X.c.mie v X.c.mideleg } }) w := by
 have cc := hw.out.c41
 have hfr := hw.out.fro
 have c40 := hw.out.c40
 have hd := hX.mideleg
 have hm := hX.mie
 have MX : Hid (∀ W, CS 259 #[.int .i64 X.c.mie, .int .i64 v, .int .i64 X.c.mideleg] (.int .i64 (xmixD X.c.mie v X.c.mideleg)) W) := hide1 (fun W => x_mixed X.c.mie v X.c.mideleg (by omega) hv (by omega) W)
 obtain ⟨r, hr⟩ := zn1 (xmixD X.c.mie v X.c.mideleg)
 simp only [<- hr] at MX |-
 clear hr
 clear hX
 go_enter func350, ntmps350
 go_upto_region 4 with fail
 go_region_with (go_at_call 259; refine (MX.out _).mono ?_; rintro o w1 ⟨rfl, rfl⟩)
 all_goals
  go_wp2_with fail
  go_end0
  exact ⟨rfl, hw.out.drew.set 41 _ rfl rfl (by omega), (Kept.refl _ _).drew.setCell (.inl (by simp)) _⟩
theorem x_writeSuper_261 (mb rb X) (hX : XOk X) (v : Nat) (hv : v < 4294967296) (w) (hw : Hid (XAt w mb rb X)) :
 CX 350 #[.pointer (some ⟨mb, 38, none⟩), .int .i64 261, .int .i64 v] (.tuple #[]) [mb] mb rb ({ X with c := { X.c with stvec := wout v 2 } }) w := by
 have cc := hw.out.c50
 have hfr := hw.out.fro
 have q : bits .andNot .i64 (v : Int) 2 = ((wout v 2 : Nat) : Int) := b_andn v 2 (by omega) (by omega)
 clear hX
 go_enter func350, ntmps350
 go_wp2_with fail
 go_end0
 exact ⟨rfl, hw.out.set 50 _ rfl rfl (by omega), (Kept.refl _ _).setCell (.inl (by simp)) _⟩
theorem x_writeSuper_262 (mb rb X) (hX : XOk X) (v : Nat) (hv : v < 4294967296) (w) (hw : Hid (XAt w mb rb X)) :
 CX 350 #[.pointer (some ⟨mb, 38, none⟩), .int .i64 262, .int .i64 v] (.tuple #[]) [mb] mb rb ({ X with c := { X.c with scen := v &&& 7 } }) w := by
 have cc := hw.out.c51
 have hfr := hw.out.fro
 have q : bits .and .i64 (v : Int) 7 = ((v &&& 7 : Nat) : Int) := b_and v 7 (by omega) (by omega)
 clear hX
 go_enter func350, ntmps350
 go_wp2_with fail
 go_end0
 exact ⟨rfl, hw.out.set 51 _ rfl rfl (by omega), (Kept.refl _ _).setCell (.inl (by simp)) _⟩
theorem x_writeSuper_320 (mb rb X) (hX : XOk X) (v : Nat) (hv : v < 4294967296) (w) (hw : Hid (XAt w mb rb X)) :
 CX 350 #[.pointer (some ⟨mb, 38, none⟩), .int .i64 320, .int .i64 v] (.tuple #[]) [mb] mb rb ({ X with c := { X.c with sscratch := v } }) w := by
 have cc := hw.out.c52
 have hfr := hw.out.fro
 clear hX
 go_enter func350, ntmps350
 go_wp2_with fail
 go_end0
 exact ⟨rfl, hw.out.set 52 _ rfl rfl (by omega), (Kept.refl _ _).setCell (.inl (by simp)) _⟩
theorem x_writeSuper_321 (mb rb X) (hX : XOk X) (v : Nat) (hv : v < 4294967296) (w) (hw : Hid (XAt w mb rb X)) :
 CX 350 #[.pointer (some ⟨mb, 38, none⟩), .int .i64 321, .int .i64 v] (.tuple #[]) [mb] mb rb ({ X with c := { X.c with sepc := wout v 1 } }) w := by
 have cc := hw.out.c53
 have hfr := hw.out.fro
 have q : bits .andNot .i64 (v : Int) 1 = ((wout v 1 : Nat) : Int) := b_andn v 1 (by omega) (by omega)
 clear hX
 go_enter func350, ntmps350
 go_wp2_with fail
 go_end0
 exact ⟨rfl, hw.out.set 53 _ rfl rfl (by omega), (Kept.refl _ _).setCell (.inl (by simp)) _⟩
theorem x_writeSuper_322 (mb rb X) (hX : XOk X) (v : Nat) (hv : v < 4294967296) (w) (hw : Hid (XAt w mb rb X)) :
 CX 350 #[.pointer (some ⟨mb, 38, none⟩), .int .i64 322, .int .i64 v] (.tuple #[]) [mb] mb rb ({ X with c := { X.c with scause := v } }) w := by
 have cc := hw.out.c54
 have hfr := hw.out.fro
 clear hX
 go_enter func350, ntmps350
 go_wp2_with fail
 go_end0
 exact ⟨rfl, hw.out.set 54 _ rfl rfl (by omega), (Kept.refl _ _).setCell (.inl (by simp)) _⟩
theorem x_writeSuper_323 (mb rb X) (hX : XOk X) (v : Nat) (hv : v < 4294967296) (w) (hw : Hid (XAt w mb rb X)) :
 CX 350 #[.pointer (some ⟨mb, 38, none⟩), .int .i64 323, .int .i64 v] (.tuple #[]) [mb] mb rb ({ X with c := { X.c with stval := v } }) w := by
 have cc := hw.out.c55
 have hfr := hw.out.fro
 clear hX
 go_enter func350, ntmps350
 go_wp2_with fail
 go_end0
 exact ⟨rfl, hw.out.set 55 _ rfl rfl (by omega), (Kept.refl _ _).setCell (.inl (by simp)) _⟩
theorem x_writeSuper_324 (mb rb X) (hX : XOk X) (v : Nat) (hv : v < 4294967296) (w) (hw : Hid (XAt w mb rb X)) :
 CX 350 #[.pointer (some ⟨mb, 38, none⟩), .int .i64 324, .int .i64 v] (.tuple #[]) [mb] mb rb ({ X with c := { X.c with mip := xmixD X.c.mip v (X.c.mideleg &&& 2) } }) w := by
 have cc := hw.out.c42
 have hfr := hw.out.fro
 have c40 := hw.out.c40
 have hd := hX.mideleg
 have hml : (X.c.mideleg &&& 2) < 4294967296 := Nat.lt_of_le_of_lt Nat.and_le_left hd
 have q : bits .and .i64 (X.c.mideleg : Int) 2 = ((X.c.mideleg &&& 2 : Nat) : Int) := b_and X.c.mideleg 2 (by omega) (by omega)
 have hm := hX.mip
 have MX : Hid (∀ W, CS 259 #[.int .i64 X.c.mip, .int .i64 v, .int .i64 (X.c.mideleg &&& 2 : Nat)] (.int .i64 (xmixD X.c.mip v (X.c.mideleg &&& 2))) W) := hide1 (fun W => x_mixed X.c.mip v (X.c.mideleg &&& 2) (by omega) hv (by omega) W)
 obtain ⟨r, hr⟩ := zn1 (xmixD X.c.mip v (X.c.mideleg &&& 2))
 simp only [<- hr] at MX |-
 clear hr
 clear hX
 go_enter func350, ntmps350
 go_upto_region 18 with fail
 go_region_with (go_at_call 259; refine (MX.out _).mono ?_; rintro o w1 ⟨rfl, rfl⟩)
 all_goals
  go_wp2_with fail
  go_end0
  exact ⟨rfl, hw.out.drew.set 42 _ rfl rfl (by omega), (Kept.refl _ _).drew.setCell (.inl (by simp)) _⟩
theorem x_writeSuper_384 (mb rb X) (hX : XOk X) (v : Nat) (hv : v < 4294967296) (w) (hw : Hid (XAt w mb rb X)) :
 CX 350 #[.pointer (some ⟨mb, 38, none⟩), .int .i64 384, .int .i64 v] (.tuple #[]) [mb] mb rb ({ X with c := { X.c with satp := v } }) w := by
 have cc := hw.out.c56
 have hfr := hw.out.fro
 clear hX
 go_enter func350, ntmps350
 go_wp2_with fail
 go_end0
 exact ⟨rfl, hw.out.set 56 _ rfl rfl (by omega), (Kept.refl _ _).setCell (.inl (by simp)) _⟩
theorem x_writeMach_768 (mb rb X) (hX : XOk X) (v : Nat) (hv : v < 4294967296) (w) (hw : Hid (XAt w mb rb X)) :
 CX 351 #[.pointer (some ⟨mb, 38, none⟩), .int .i64 768, .int .i64 v] (.tuple #[]) [mb] mb rb ({ X with c := { X.c with mstatus := xstwD X.c.mstatus v } }) w := by
 have cc := hw.out.c38
 have hfr := hw.out.fro
 have hm := hX.mstatus
 have SW := hide1 (x_statusWritten X.c.mstatus v hm hv)
 obtain ⟨r, hr⟩ := zn1 (xstwD X.c.mstatus v)
 simp only [<- hr] at SW |-
 clear hr
 clear hX
 go_enter func351, ntmps351
 go_wp2_with (go_at_call 380; refine (SW.out _).mono ?_; rintro o w1 ⟨rfl, rfl⟩)
 exact zq294
theorem x_writeMach_770 (mb rb X) (hX : XOk X) (v : Nat) (hv : v < 4294967296) (w) (hw : Hid (XAt w mb rb X)) :
 CX 351 #[.pointer (some ⟨mb, 38, none⟩), .int .i64 770, .int .i64 v] (.tuple #[]) [mb] mb rb ({ X with c := { X.c with medeleg := v &&& 46079 } }) w := by
 have cc := hw.out.c39
 have hfr := hw.out.fro
 have q : bits .and .i64 (v : Int) 46079 = ((v &&& 46079 : Nat) : Int) := b_and v 46079 (by omega) (by omega)
 clear hX
 go_enter func351, ntmps351
 go_wp2_with fail
 go_end0
 exact ⟨rfl, hw.out.set 39 _ rfl rfl (by omega), (Kept.refl _ _).setCell (.inl (by simp)) _⟩
theorem x_writeMach_771 (mb rb X) (hX : XOk X) (v : Nat) (hv : v < 4294967296) (w) (hw : Hid (XAt w mb rb X)) :
 CX 351 #[.pointer (some ⟨mb, 38, none⟩), .int .i64 771, .int .i64 v] (.tuple #[]) [mb] mb rb ({ X with c := { X.c with mideleg := v &&& 546 } }) w := by
 have cc := hw.out.c40
 have hfr := hw.out.fro
 have q : bits .and .i64 (v : Int) 546 = ((v &&& 546 : Nat) : Int) := b_and v 546 (by omega) (by omega)
 clear hX
 go_enter func351, ntmps351
 go_wp2_with fail
 go_end0
 exact ⟨rfl, hw.out.set 40 _ rfl rfl (by omega), (Kept.refl _ _).setCell (.inl (by simp)) _⟩
theorem x_writeMach_772 (mb rb X) (hX : XOk X) (v : Nat) (hv : v < 4294967296) (w) (hw : Hid (XAt w mb rb X)) :
 CX 351 #[.pointer (some ⟨mb, 38, none⟩), .int .i64 772, .int .i64 v] (.tuple #[]) [mb] mb rb ({ X with c := { X.c with mie := v &&& 2730 } }) w := by
 have cc := hw.out.c41
 have hfr := hw.out.fro
 have q : bits .and .i64 (v : Int) 2730 = ((v &&& 2730 : Nat) : Int) := b_and v 2730 (by omega) (by omega)
 clear hX
 go_enter func351, ntmps351
 go_wp2_with fail
 go_end0
 exact ⟨rfl, hw.out.set 41 _ rfl rfl (by omega), (Kept.refl _ _).setCell (.inl (by simp)) _⟩
theorem x_writeMach_773 (mb rb X) (hX : XOk X) (v : Nat) (hv : v < 4294967296) (w) (hw : Hid (XAt w mb rb X)) :
 CX 351 #[.pointer (some ⟨mb, 38, none⟩), .int .i64 773, .int .i64 v] (.tuple #[]) [mb] mb rb ({ X with c := { X.c with mtvec := wout v 2 } }) w := by
 have cc := hw.out.c43
 have hfr := hw.out.fro
 have q : bits .andNot .i64 (v : Int) 2 = ((wout v 2 : Nat) : Int) := b_andn v 2 (by omega) (by omega)
 clear hX
 go_enter func351, ntmps351
 go_wp2_with fail
 go_end0
 exact ⟨rfl, hw.out.set 43 _ rfl rfl (by omega), (Kept.refl _ _).setCell (.inl (by simp)) _⟩
theorem x_writeMach_774 (mb rb X) (hX : XOk X) (v : Nat) (hv : v < 4294967296) (w) (hw : Hid (XAt w mb rb X)) :
 CX 351 #[.pointer (some ⟨mb, 38, none⟩), .int .i64 774, .int .i64 v] (.tuple #[]) [mb] mb rb ({ X with c := { X.c with mcen := v &&& 7 } }) w := by
 have cc := hw.out.c44
 have hfr := hw.out.fro
 have q : bits .and .i64 (v : Int) 7 = ((v &&& 7 : Nat) : Int) := b_and v 7 (by omega) (by omega)
 clear hX
 go_enter func351, ntmps351
 go_wp2_with fail
 go_end0
 exact ⟨rfl, hw.out.set 44 _ rfl rfl (by omega), (Kept.refl _ _).setCell (.inl (by simp)) _⟩
theorem x_writeMach_800 (mb rb X) (hX : XOk X) (v : Nat) (hv : v < 4294967296) (w) (hw : Hid (XAt w mb rb X)) :
 CX 351 #[.pointer (some ⟨mb, 38, none⟩), .int .i64 800, .int .i64 v] (.tuple #[]) [mb] mb rb ({ X with c := { X.c with minh := v &&& 5 } }) w := by
 have cc := hw.out.c45
 have hfr := hw.out.fro
 have q : bits .and .i64 (v : Int) 5 = ((v &&& 5 : Nat) : Int) := b_and v 5 (by omega) (by omega)
 clear hX
 go_enter func351, ntmps351
 go_wp2_with fail
 go_end0
 exact ⟨rfl, hw.out.set 45 _ rfl rfl (by omega), (Kept.refl _ _).setCell (.inl (by simp)) _⟩
theorem x_writeMach_832 (mb rb X) (hX : XOk X) (v : Nat) (hv : v < 4294967296) (w) (hw : Hid (XAt w mb rb X)) :
 CX 351 #[.pointer (some ⟨mb, 38, none⟩), .int .i64 832, .int .i64 v] (.tuple #[]) [mb] mb rb ({ X with c := { X.c with mscratch := v } }) w := by
 have cc := hw.out.c46
 have hfr := hw.out.fro
 clear hX
 go_enter func351, ntmps351
 go_wp2_with fail
 go_end0
 exact ⟨rfl, hw.out.set 46 _ rfl rfl (by omega), (Kept.refl _ _).setCell (.inl (by simp)) _⟩
theorem x_writeMach_833 (mb rb X) (hX : XOk X) (v : Nat) (hv : v < 4294967296) (w) (hw : Hid (XAt w mb rb X)) :
 CX 351 #[.pointer (some ⟨mb, 38, none⟩), .int .i64 833, .int .i64 v] (.tuple #[]) [mb] mb rb ({ X with c := { X.c with mepc := wout v 1 } }) w := by
 have cc := hw.out.c47
 have hfr := hw.out.fro
 have q : bits .andNot .i64 (v : Int) 1 = ((wout v 1 : Nat) : Int) := b_andn v 1 (by omega) (by omega)
 clear hX
 go_enter func351, ntmps351
 go_wp2_with fail
 go_end0
 exact ⟨rfl, hw.out.set 47 _ rfl rfl (by omega), (Kept.refl _ _).setCell (.inl (by simp)) _⟩
theorem x_writeMach_834 (mb rb X) (hX : XOk X) (v : Nat) (hv : v < 4294967296) (w) (hw : Hid (XAt w mb rb X)) :
 CX 351 #[.pointer (some ⟨mb, 38, none⟩), .int .i64 834, .int .i64 v] (.tuple #[]) [mb] mb rb ({ X with c := { X.c with mcause := v } }) w := by
 have cc := hw.out.c48
 have hfr := hw.out.fro
 clear hX
 go_enter func351, ntmps351
 go_wp2_with fail
 go_end0
 exact ⟨rfl, hw.out.set 48 _ rfl rfl (by omega), (Kept.refl _ _).setCell (.inl (by simp)) _⟩
theorem x_writeMach_835 (mb rb X) (hX : XOk X) (v : Nat) (hv : v < 4294967296) (w) (hw : Hid (XAt w mb rb X)) :
 CX 351 #[.pointer (some ⟨mb, 38, none⟩), .int .i64 835, .int .i64 v] (.tuple #[]) [mb] mb rb ({ X with c := { X.c with mtval := v } }) w := by
 have cc := hw.out.c49
 have hfr := hw.out.fro
 clear hX
 go_enter func351, ntmps351
 go_wp2_with fail
 go_end0
 exact ⟨rfl, hw.out.set 49 _ rfl rfl (by omega), (Kept.refl _ _).setCell (.inl (by simp)) _⟩
theorem x_writeMach_836 (mb rb X) (hX : XOk X) (v : Nat) (hv : v < 4294967296) (w) (hw : Hid (XAt w mb rb X)) :
 CX 351 #[.pointer (some ⟨mb, 38, none⟩), .int .i64 836, .int .i64 v] (.tuple #[]) [mb] mb rb ({ X with c := { X.c with mip := v &&& 546 } }) w := by
 have cc := hw.out.c42
 have hfr := hw.out.fro
 have q : bits .and .i64 (v : Int) 546 = ((v &&& 546 : Nat) : Int) := b_and v 546 (by omega) (by omega)
 clear hX
 go_enter func351, ntmps351
 go_wp2_with fail
 go_end0
 exact ⟨rfl, hw.out.set 42 _ rfl rfl (by omega), (Kept.refl _ _).setCell (.inl (by simp)) _⟩
theorem x_writeCounter_2816 (mb rb X) (hX : XOk X) (v : Nat) (hv : v < 4294967296) (w) (hw : Hid (XAt w mb rb X)) :
 CX 352 #[.pointer (some ⟨mb, 38, none⟩), .int .i64 2816, .int .i64 v] (.tuple #[]) [mb] mb rb ({ X with c := { X.c with cyc := v } }) w := by
 have cc := hw.out.c57
 have hfr := hw.out.fro
 clear hX
 go_enter func352, ntmps352
 go_wp2_with fail
 go_end0
 exact ⟨rfl, hw.out.set 57 _ rfl rfl (by omega), (Kept.refl _ _).setCell (.inl (by simp)) _⟩
theorem x_writeCounter_2944 (mb rb X) (hX : XOk X) (v : Nat) (hv : v < 4294967296) (w) (hw : Hid (XAt w mb rb X)) :
 CX 352 #[.pointer (some ⟨mb, 38, none⟩), .int .i64 2944, .int .i64 v] (.tuple #[]) [mb] mb rb ({ X with c := { X.c with cych := v } }) w := by
 have cc := hw.out.c58
 have hfr := hw.out.fro
 clear hX
 go_enter func352, ntmps352
 go_wp2_with fail
 go_end0
 exact ⟨rfl, hw.out.set 58 _ rfl rfl (by omega), (Kept.refl _ _).setCell (.inl (by simp)) _⟩
theorem x_writeCounter_2818 (mb rb X) (hX : XOk X) (v : Nat) (hv : v < 4294967296) (w) (hw : Hid (XAt w mb rb X)) :
 CX 352 #[.pointer (some ⟨mb, 38, none⟩), .int .i64 2818, .int .i64 v] (.tuple #[]) [mb] mb rb ({ X with c := { X.c with ret := v } }) w := by
 have cc := hw.out.c59
 have hfr := hw.out.fro
 clear hX
 go_enter func352, ntmps352
 go_wp2_with fail
 go_end0
 exact ⟨rfl, hw.out.set 59 _ rfl rfl (by omega), (Kept.refl _ _).setCell (.inl (by simp)) _⟩
theorem x_writeCounter_2946 (mb rb X) (hX : XOk X) (v : Nat) (hv : v < 4294967296) (w) (hw : Hid (XAt w mb rb X)) :
 CX 352 #[.pointer (some ⟨mb, 38, none⟩), .int .i64 2946, .int .i64 v] (.tuple #[]) [mb] mb rb ({ X with c := { X.c with reth := v } }) w := by
 have cc := hw.out.c60
 have hfr := hw.out.fro
 clear hX
 go_enter func352, ntmps352
 go_wp2_with fail
 go_end0
 exact ⟨rfl, hw.out.set 60 _ rfl rfl (by omega), (Kept.refl _ _).setCell (.inl (by simp)) _⟩
theorem x_writeSuper_no (mb : Nat) (n v : Int) (q256 : (n == 256) = false) (q260 : (n == 260) = false) (q261 : (n == 261) = false) (q262 : (n == 262) = false) (q320 : (n == 320) = false) (q321 : (n == 321) = false) (q322 : (n == 322) = false) (q323 : (n == 323) = false) (q324 : (n == 324) = false) (q384 : (n == 384) = false) (w : World) :
 CS 350 #[.pointer (some ⟨mb, 38, none⟩), .int .i64 n, .int .i64 v] (.tuple #[]) w := by
 go_enter func350, ntmps350
 exact zq295
def writeSuperD (X : XS) (n : Int) (v : Nat) : XS :=
 if n = 256 then { X with c := { X.c with mstatus := xmixD X.c.mstatus v 786722 } } else if n = 260 then { X with c := { X.c with mie := xmixD X.c.mie v X.c.mideleg } } else if n = 261 then { X with c := { X.c with stvec := wout v 2 } } else if n = 262 then { X with c := { X.c with scen := v &&& 7 } } else if n = 320 then { X with c := { X.c with sscratch := v } } else if n = 321 then { X with c := { X.c with sepc := wout v 1 } } else if n = 322 then { X with c := { X.c with scause := v } } else if n = 323 then { X with c := { X.c with stval := v } } else if n = 324 then { X with c := { X.c with mip := xmixD X.c.mip v (X.c.mideleg &&& 2) } } else if n = 384 then { X with c := { X.c with satp := v } } else X
theorem x_writeSuper (mb rb X) (hX : XOk X) (n : Int) (v : Nat) (hv : v < 4294967296) (w) (hw : Hid (XAt w mb rb X)) :
 CX 350 #[.pointer (some ⟨mb, 38, none⟩), .int .i64 n, .int .i64 v] (.tuple #[]) [mb] mb rb (writeSuperD X n v) w := by
 by_cases h256 : n = 256
 . subst h256; exact x_writeSuper_256 mb rb X hX v hv w hw
 by_cases h260 : n = 260
 . subst h260; exact x_writeSuper_260 mb rb X hX v hv w hw
 by_cases h261 : n = 261
 . subst h261; exact x_writeSuper_261 mb rb X hX v hv w hw
 by_cases h262 : n = 262
 . subst h262; exact x_writeSuper_262 mb rb X hX v hv w hw
 by_cases h320 : n = 320
 . subst h320; exact x_writeSuper_320 mb rb X hX v hv w hw
 by_cases h321 : n = 321
 . subst h321; exact x_writeSuper_321 mb rb X hX v hv w hw
 by_cases h322 : n = 322
 . subst h322; exact x_writeSuper_322 mb rb X hX v hv w hw
 by_cases h323 : n = 323
 . subst h323; exact x_writeSuper_323 mb rb X hX v hv w hw
 by_cases h324 : n = 324
 . subst h324; exact x_writeSuper_324 mb rb X hX v hv w hw
 by_cases h384 : n = 384
 . subst h384; exact x_writeSuper_384 mb rb X hX v hv w hw
 rw [show writeSuperD X n v = X by unfold writeSuperD; simp [h256, h260, h261, h262, h320, h321, h322, h323, h324, h384]]
 refine (x_writeSuper_no mb n v (by simp [h256]) (by simp [h260]) (by simp [h261]) (by simp [h262]) (by simp [h320]) (by simp [h321]) (by simp [h322]) (by simp [h323]) (by simp [h324]) (by simp [h384]) w).mono ?_
 exact zq296
theorem x_writeMach_no (mb : Nat) (n v : Int) (q768 : (n == 768) = false) (q770 : (n == 770) = false) (q771 : (n == 771) = false) (q772 : (n == 772) = false) (q773 : (n == 773) = false) (q774 : (n == 774) = false) (q800 : (n == 800) = false) (q832 : (n == 832) = false) (q833 : (n == 833) = false) (q834 : (n == 834) = false) (q835 : (n == 835) = false) (q836 : (n == 836) = false) (w : World) :
 CS 351 #[.pointer (some ⟨mb, 38, none⟩), .int .i64 n, .int .i64 v] (.tuple #[]) w := by
 go_enter func351, ntmps351
 exact zq295
def writeMachD (X : XS) (n : Int) (v : Nat) : XS :=
 if n = 768 then { X with c := { X.c with mstatus := xstwD X.c.mstatus v } } else if n = 770 then { X with c := { X.c with medeleg := v &&& 46079 } } else if n = 771 then { X with c := { X.c with mideleg := v &&& 546 } } else if n = 772 then { X with c := { X.c with mie := v &&& 2730 } } else if n = 773 then { X with c := { X.c with mtvec := wout v 2 } } else if n = 774 then { X with c := { X.c with mcen := v &&& 7 } } else if n = 800 then { X with c := { X.c with minh := v &&& 5 } } else if n = 832 then { X with c := { X.c with mscratch := v } } else if n = 833 then { X with c := { X.c with mepc := wout v 1 } } else if n = 834 then { X with c := { X.c with mcause := v } } else if n = 835 then { X with c := { X.c with mtval := v } } else if n = 836 then { X with c := { X.c with mip := v &&& 546 } } else X
theorem x_writeMach (mb rb X) (hX : XOk X) (n : Int) (v : Nat) (hv : v < 4294967296) (w) (hw : Hid (XAt w mb rb X)) :
 CX 351 #[.pointer (some ⟨mb, 38, none⟩), .int .i64 n, .int .i64 v] (.tuple #[]) [mb] mb rb (writeMachD X n v) w := by
 by_cases h768 : n = 768
 . subst h768; exact x_writeMach_768 mb rb X hX v hv w hw
 by_cases h770 : n = 770
 . subst h770; exact x_writeMach_770 mb rb X hX v hv w hw
 by_cases h771 : n = 771
 . subst h771; exact x_writeMach_771 mb rb X hX v hv w hw
 by_cases h772 : n = 772
 . subst h772; exact x_writeMach_772 mb rb X hX v hv w hw
 by_cases h773 : n = 773
 . subst h773; exact x_writeMach_773 mb rb X hX v hv w hw
 by_cases h774 : n = 774
 . subst h774; exact x_writeMach_774 mb rb X hX v hv w hw
 by_cases h800 : n = 800
 . subst h800; exact x_writeMach_800 mb rb X hX v hv w hw
 by_cases h832 : n = 832
 . subst h832; exact x_writeMach_832 mb rb X hX v hv w hw
 by_cases h833 : n = 833
 . subst h833; exact x_writeMach_833 mb rb X hX v hv w hw
 by_cases h834 : n = 834
 . subst h834; exact x_writeMach_834 mb rb X hX v hv w hw
 by_cases h835 : n = 835
 . subst h835; exact x_writeMach_835 mb rb X hX v hv w hw
 by_cases h836 : n = 836
 . subst h836; exact x_writeMach_836 mb rb X hX v hv w hw
 rw [show writeMachD X n v = X by unfold writeMachD; simp [h768, h770, h771, h772, h773, h774, h800, h832, h833, h834, h835, h836]]
 refine (x_writeMach_no mb n v (by simp [h768]) (by simp [h770]) (by simp [h771]) (by simp [h772]) (by simp [h773]) (by simp [h774]) (by simp [h800]) (by simp [h832]) (by simp [h833]) (by simp [h834]) (by simp [h835]) (by simp [h836]) w).mono ?_
 exact zq296
theorem x_writeCounter_no (mb : Nat) (n v : Int) (q2816 : (n == 2816) = false) (q2944 : (n == 2944) = false) (q2818 : (n == 2818) = false) (q2946 : (n == 2946) = false) (w : World) :
 CS 352 #[.pointer (some ⟨mb, 38, none⟩), .int .i64 n, .int .i64 v] (.tuple #[]) w := by
 go_enter func352, ntmps352
 exact zq295
def writeCounterD (X : XS) (n : Int) (v : Nat) : XS :=
 if n = 2816 then { X with c := { X.c with cyc := v } } else if n = 2944 then { X with c := { X.c with cych := v } } else if n = 2818 then { X with c := { X.c with ret := v } } else if n = 2946 then { X with c := { X.c with reth := v } } else X
theorem x_writeCounter (mb rb X) (hX : XOk X) (n : Int) (v : Nat) (hv : v < 4294967296) (w) (hw : Hid (XAt w mb rb X)) :
 CX 352 #[.pointer (some ⟨mb, 38, none⟩), .int .i64 n, .int .i64 v] (.tuple #[]) [mb] mb rb (writeCounterD X n v) w := by
 by_cases h2816 : n = 2816
 . subst h2816; exact x_writeCounter_2816 mb rb X hX v hv w hw
 by_cases h2944 : n = 2944
 . subst h2944; exact x_writeCounter_2944 mb rb X hX v hv w hw
 by_cases h2818 : n = 2818
 . subst h2818; exact x_writeCounter_2818 mb rb X hX v hv w hw
 by_cases h2946 : n = 2946
 . subst h2946; exact x_writeCounter_2946 mb rb X hX v hv w hw
 rw [show writeCounterD X n v = X by unfold writeCounterD; simp [h2816, h2944, h2818, h2946]]
 refine (x_writeCounter_no mb n v (by simp [h2816]) (by simp [h2944]) (by simp [h2818]) (by simp [h2946]) w).mono ?_
 exact zq296
def wcsX (X : XS) (n : Int) (v : Nat) : XS := if 256 <= n /\ n <= 511 then writeSuperD X n v else if 768 <= n /\ n <= 1023 then writeMachD X n v else writeCounterD X n v
theorem x_csrsWrite (mb rb X) (hX : XOk X) (n : Int) (v : Nat) (hv : v < 4294967296) (w) (hw : Hid (XAt w mb rb X)) :
 CX 279 #[.pointer (some ⟨mb, 38, none⟩), .int .i64 n, .int .i64 v] (.tuple #[]) [mb] mb rb (wcsX X n v) w := by
 have S := hide1 (x_writeSuper mb rb X hX n v hv w hw)
 have M := hide1 (x_writeMach mb rb X hX n v hv w hw)
 have C := hide1 (x_writeCounter mb rb X hX n v hv w hw)
 unfold wcsX
 clear hX hw
 by_cases h1 : 256 <= n /\ n <= 511
 . rw [if_pos h1]
   obtain ⟨a1, a2⟩ := h1
   have q1 : decide (256 <= n) = true := by simp [a1]
   have q2 : decide (n <= 511) = true := by simp [a2]
   go_enter func279, ntmps279
   go_wp2_with (go_at_call 350; refine S.out.mono ?_; rintro o w1 ⟨rfl, hx1, hk1⟩)
   go_end0
   exact ⟨rfl, hx1, hk1⟩
 rw [if_neg h1]
 by_cases h2 : 768 <= n /\ n <= 1023
 . rw [if_pos h2]
   obtain ⟨a1, a2⟩ := h2
   have q1 : decide (256 <= n) = true := by simp; omega
   have q2 : decide (n <= 511) = false := by simp; omega
   have q3 : decide (768 <= n) = true := by simp [a1]
   have q4 : decide (n <= 1023) = true := by simp [a2]
   clear h1
   go_enter func279, ntmps279
   go_wp2_with (go_at_call 351; refine M.out.mono ?_; rintro o w1 ⟨rfl, hx1, hk1⟩)
   go_end0
   exact ⟨rfl, hx1, hk1⟩
 rw [if_neg h2]
 clear S M
 go_enter func279, ntmps279
 go_wp2_with (go_at_call 352; refine C.out.mono ?_; rintro o w1 ⟨rfl, hx1, hk1⟩)
 all_goals first
  | (exfalso; omega)
  | (go_end0; exact ⟨rfl, hx1, hk1⟩)
theorem sup_lt (X : XS) (hX : XOk X) (n : Int) : (supD X n).1 < 4294967296 := by
 have a1 := hX.mstatus; have a2 := hX.mie; have a3 := hX.stvec; have a4 := hX.scen; have a5 := hX.sscratch; have a6 := hX.sepc; have a7 := hX.scause; have a8 := hX.stval; have a9 := hX.satp
 have p := pen_lt X hX
 have b1 : (X.c.mstatus &&& 786722) <= X.c.mstatus := Nat.and_le_left
 have b2 : (X.c.mie &&& X.c.mideleg) <= X.c.mie := Nat.and_le_left
 have b3 : (penD X &&& X.c.mideleg) <= penD X := Nat.and_le_left
 unfold supD
 repeat' split
 all_goals first | (dsimp only; omega) | omega | (show (0 : Nat) < _; omega) | (show (1075056901 : Nat) < _; omega) | (rename_i h; split at h <;> simp_all)
theorem ite_fst {c : Prop} [Decidable c] {a b : Nat × Bool} (ha : a.1 < 4294967296) (hb : b.1 < 4294967296) : (if c then a else b).1 < 4294967296 := by split <;> assumption
theorem mac_lt (X : XS) (hX : XOk X) (n : Int) : (macD X n).1 < 4294967296 := by
 have a4 := hX.mcen
 have a9 := hX.minh
 have p := pen_lt X hX
 unfold macD
 refine ite_fst hX.mstatus (ite_fst (by decide) (ite_fst hX.medeleg (ite_fst hX.mideleg (ite_fst hX.mie (ite_fst hX.mtvec (ite_fst (Nat.lt_trans a4 (by decide)) (ite_fst (Nat.lt_trans a9 (by decide)) (ite_fst hX.mscratch (ite_fst hX.mepc (ite_fst hX.mcause (ite_fst hX.mtval (ite_fst (Nat.lt_trans p (by decide)) (show (0 : Nat) < 4294967296 by decide)))))))))))))
theorem cnt_lt (X : XS) (hX : XOk X) (n : Nat) : (cntD X n).1 < 4294967296 := by
 have a1 := hX.cyc; have a2 := hX.cych; have a3 := hX.ret; have a4 := hX.reth; have a5 := hX.b.time; have a6 := hX.b.timeh
 unfold cntD cnV
 repeat' split
 all_goals first | (dsimp only; omega) | omega | (show (0 : Nat) < _; omega) | (show (1075056901 : Nat) < _; omega) | (rename_i h; split at h <;> simp_all)
theorem rcs_lt (X : XS) (hX : XOk X) (n : Int) : (rcsD X n).1 < 4294967296 := by
 unfold rcsD
 repeat' split
 . exact sup_lt X hX n
 . exact mac_lt X hX n
 . exact cnt_lt X hX _
 . dsimp only; omega
theorem chg_lt (op : Int) (a b : Nat) (ha : a < 4294967296) (hb : b < 4294967296) : xchgD op a b < 4294967296 := by
 unfold xchgD
 repeat' split
 . exact nat_or_lt a b 32 ha hb
 . exact Nat.lt_of_le_of_lt (wout_le _ _) ha
 . exact hb
def opdD (X : XS) (i : NI) : Nat := if i.op <= 63 then X.x.getD i.rs1 0 else i.rs1
def ccrX (X : XS) (i : NI) : XS :=
 if wrcB i = true then wcsX (setXR X i.rd (rcsD X i.im).1) i.im (xchgD i.op (if i.im = 836 then X.c.mip else (rcsD X i.im).1) (opdD X i)) else setXR X i.rd (rcsD X i.im).1
theorem XS.okR {X : XS} (hX : XOk X) (d v : Nat) (hv : v < 4294967296) : XOk (setXR X d v) := by
 unfold setXR
 split
 . exact hX
 . refine ⟨hX.b, by simpa using hX.x, ?_, hX.pc, hX.mode, hX.mstatus, hX.satp, hX.mie, hX.mip, hX.medeleg, hX.mideleg, hX.mtvec, hX.mcen, hX.minh, hX.mscratch, hX.mepc, hX.mcause, hX.mtval, hX.stvec, hX.scen, hX.sscratch, hX.sepc, hX.scause, hX.stval, hX.cyc, hX.cych, hX.ret, hX.reth, hX.resv, hX.mpp⟩
   intro i
   dsimp only
   by_cases hd : d < 32
   . rw [getD_set32 X.x d i v hX.x hd]
     split
     . exact hv
     . exact hX.xr i
   . rw [List.set_eq_of_length_le (by rw [hX.x]; omega)]
     exact hX.xr i
theorem x_changeCsr_rn (mb rb X) (hX : XOk X) (i : NI) (hi : NIOk i) (hlo : i.op <= 63) (hwr : wrcB i = false) (w) (hw : Hid (XAt w mb rb X)) :
 CX 203 #[.pointer (some ⟨mb, 0, none⟩), niV i] (.tuple #[]) [mb] mb rb (ccrX X i) w := by
 have hlt := hw.out.lt
 have hrlt := hw.out.rlt
 have hlt' : ¬ mb = w.heap.size := by omega
 have A1 := hide1 (fun W h => x_register mb rb X i.rs1 hi.rs1 W h)
 have hwa : Hid (XAt (w.alloc (niC i)) mb rb X) := zq10
 have RC := hide1 (fun W h => x_readCsr mb rb X hX i.im W h)
 have hcl := rcs_lt X hX i.im
 have hol : opdD X i < 4294967296 := by
  unfold opdD; split
  . exact hX.xr _
  . have := hi.rs1; omega
 have hmip := hX.mip
 have WC := hide1 (fun W => x_writesCsr i W)
 unfold ccrX
 have hOK := XS.okR hX i.rd (rcsD X i.im).1 hcl
 have SR := hide1 (fun W h => x_setRegister mb rb X hX.x i.rd (rcsD X i.im).1 hi.rd W h)
 simp only [hwr] at WC
 rw [if_neg (by rw [hwr]; simp)]
 have hop : opdD X i = X.x.getD i.rs1 0 := by unfold opdD; rw [if_pos hlo]
 rw [hop] at hol
 obtain ⟨⟨cv, cb⟩, hR⟩ : ∃ r, r = rcsD X i.im := ⟨_, rfl⟩
 simp only [<- hR] at RC hcl hOK SR  |-
 try dsimp only at RC hcl hOK SR  |-
 unfold niC at hwa WC
 unfold niV at WC |-
 have hmp : (setXR X i.rd cv).c.mip = X.c.mip := zq112
 obtain ⟨op, rd, rs1, rs2, im, ln⟩ := i
 dsimp only at *
 obtain ⟨Y, hY⟩ := zn1 (setXR X rd cv)
 simp only [<- hY] at SR hOK hmp  |-
 have qlo : decide (op <= 63) = true := by simp [hlo]
 exact zq297
theorem x_changeCsr_rw (mb rb X) (hX : XOk X) (i : NI) (hi : NIOk i) (hlo : i.op <= 63) (hwr : wrcB i = true) (hm : ¬ i.im = 836) (w) (hw : Hid (XAt w mb rb X)) :
 CX 203 #[.pointer (some ⟨mb, 0, none⟩), niV i] (.tuple #[]) [mb] mb rb (ccrX X i) w := by
 have hlt := hw.out.lt
 have hrlt := hw.out.rlt
 have hlt' : ¬ mb = w.heap.size := by omega
 have A1 := hide1 (fun W h => x_register mb rb X i.rs1 hi.rs1 W h)
 have hwa : Hid (XAt (w.alloc (niC i)) mb rb X) := zq10
 have RC := hide1 (fun W h => x_readCsr mb rb X hX i.im W h)
 have hcl := rcs_lt X hX i.im
 have hol : opdD X i < 4294967296 := by
  unfold opdD; split
  . exact hX.xr _
  . have := hi.rs1; omega
 have hmip := hX.mip
 have WC := hide1 (fun W => x_writesCsr i W)
 unfold ccrX
 have hOK := XS.okR hX i.rd (rcsD X i.im).1 hcl
 have SR := hide1 (fun W h => x_setRegister mb rb X hX.x i.rd (rcsD X i.im).1 hi.rd W h)
 simp only [hwr] at WC
 rw [if_pos hwr, if_neg hm]
 have hop : opdD X i = X.x.getD i.rs1 0 := by unfold opdD; rw [if_pos hlo]
 rw [hop] at hol
 rw [hop]
 have CH := hide1 (x_changed i.op (rcsD X i.im).1 (X.x.getD i.rs1 0) hcl hol)
 have hchl := chg_lt i.op (rcsD X i.im).1 (X.x.getD i.rs1 0) hcl hol
 have CW := hide1 (fun W h => x_csrsWrite mb rb (setXR X i.rd (rcsD X i.im).1) hOK i.im (xchgD i.op (rcsD X i.im).1 (X.x.getD i.rs1 0)) hchl W h)
 obtain ⟨nv, hnv⟩ := zn1 (xchgD i.op (rcsD X i.im).1 (X.x.getD i.rs1 0))
 simp only [<- hnv] at CH CW hchl |-
 clear hnv
 obtain ⟨⟨cv, cb⟩, hR⟩ : ∃ r, r = rcsD X i.im := ⟨_, rfl⟩
 simp only [<- hR] at RC hcl hOK SR CH CW |-
 try dsimp only at RC hcl hOK SR CH CW |-
 unfold niC at hwa WC
 unfold niV at WC |-
 have hmp : (setXR X i.rd cv).c.mip = X.c.mip := zq112
 obtain ⟨op, rd, rs1, rs2, im, ln⟩ := i
 dsimp only at *
 obtain ⟨Y, hY⟩ := zn1 (setXR X rd cv)
 simp only [<- hY] at SR hOK hmp CH CW |-
 have qlo : decide (op <= 63) = true := by simp [hlo]
 exact zq298
theorem x_changeCsr_rm (mb rb X) (hX : XOk X) (i : NI) (hi : NIOk i) (hlo : i.op <= 63) (hwr : wrcB i = true) (hm : i.im = 836) (w) (hw : Hid (XAt w mb rb X)) :
 CX 203 #[.pointer (some ⟨mb, 0, none⟩), niV i] (.tuple #[]) [mb] mb rb (ccrX X i) w := by
 have hlt := hw.out.lt
 have hrlt := hw.out.rlt
 have hlt' : ¬ mb = w.heap.size := by omega
 have A1 := hide1 (fun W h => x_register mb rb X i.rs1 hi.rs1 W h)
 have hwa : Hid (XAt (w.alloc (niC i)) mb rb X) := zq10
 have RC := hide1 (fun W h => x_readCsr mb rb X hX i.im W h)
 have hcl := rcs_lt X hX i.im
 have hol : opdD X i < 4294967296 := by
  unfold opdD; split
  . exact hX.xr _
  . have := hi.rs1; omega
 have hmip := hX.mip
 have WC := hide1 (fun W => x_writesCsr i W)
 unfold ccrX
 have hOK := XS.okR hX i.rd (rcsD X i.im).1 hcl
 have SR := hide1 (fun W h => x_setRegister mb rb X hX.x i.rd (rcsD X i.im).1 hi.rd W h)
 simp only [hwr] at WC
 rw [if_pos hwr, if_pos hm]
 have hop : opdD X i = X.x.getD i.rs1 0 := by unfold opdD; rw [if_pos hlo]
 rw [hop] at hol
 rw [hop]
 have CH := hide1 (x_changed i.op X.c.mip (X.x.getD i.rs1 0) (by omega) hol)
 have hchl := chg_lt i.op X.c.mip (X.x.getD i.rs1 0) (by omega) hol
 have CW := hide1 (fun W h => x_csrsWrite mb rb (setXR X i.rd (rcsD X i.im).1) hOK i.im (xchgD i.op X.c.mip (X.x.getD i.rs1 0)) hchl W h)
 obtain ⟨nv, hnv⟩ := zn1 (xchgD i.op X.c.mip (X.x.getD i.rs1 0))
 simp only [<- hnv] at CH CW hchl |-
 clear hnv
 obtain ⟨⟨cv, cb⟩, hR⟩ : ∃ r, r = rcsD X i.im := ⟨_, rfl⟩
 simp only [<- hR] at RC hcl hOK SR CW |-
 try dsimp only at RC hcl hOK SR CW |-
 unfold niC at hwa WC
 unfold niV at WC |-
 have hmp : (setXR X i.rd cv).c.mip = X.c.mip := zq112
 obtain ⟨op, rd, rs1, rs2, im, ln⟩ := i
 dsimp only at *
 obtain ⟨Y, hY⟩ := zn1 (setXR X rd cv)
 simp only [<- hY] at SR hOK hmp CW |-
 have qlo : decide (op <= 63) = true := by simp [hlo]
 exact zq299
theorem x_changeCsr_in (mb rb X) (hX : XOk X) (i : NI) (hi : NIOk i) (hlo : ¬ i.op <= 63) (hwr : wrcB i = false) (w) (hw : Hid (XAt w mb rb X)) :
 CX 203 #[.pointer (some ⟨mb, 0, none⟩), niV i] (.tuple #[]) [mb] mb rb (ccrX X i) w := by
 have hlt := hw.out.lt
 have hrlt := hw.out.rlt
 have hlt' : ¬ mb = w.heap.size := by omega
 have A1 := hide1 (fun W h => x_register mb rb X i.rs1 hi.rs1 W h)
 have hwa : Hid (XAt (w.alloc (niC i)) mb rb X) := zq10
 have RC := hide1 (fun W h => x_readCsr mb rb X hX i.im W h)
 have hcl := rcs_lt X hX i.im
 have hol : opdD X i < 4294967296 := by
  unfold opdD; split
  . exact hX.xr _
  . have := hi.rs1; omega
 have hmip := hX.mip
 have WC := hide1 (fun W => x_writesCsr i W)
 unfold ccrX
 have hOK := XS.okR hX i.rd (rcsD X i.im).1 hcl
 have SR := hide1 (fun W h => x_setRegister mb rb X hX.x i.rd (rcsD X i.im).1 hi.rd W h)
 simp only [hwr] at WC
 rw [if_neg (by rw [hwr]; simp)]
 have hop : opdD X i = i.rs1 := by unfold opdD; rw [if_neg hlo]
 rw [hop] at hol
 obtain ⟨⟨cv, cb⟩, hR⟩ : ∃ r, r = rcsD X i.im := ⟨_, rfl⟩
 simp only [<- hR] at RC hcl hOK SR  |-
 try dsimp only at RC hcl hOK SR  |-
 unfold niC at hwa WC
 unfold niV at WC |-
 have hmp : (setXR X i.rd cv).c.mip = X.c.mip := zq112
 obtain ⟨op, rd, rs1, rs2, im, ln⟩ := i
 dsimp only at *
 obtain ⟨Y, hY⟩ := zn1 (setXR X rd cv)
 simp only [<- hY] at SR hOK hmp  |-
 have qlo : decide (op <= 63) = false := by simp; omega
 exact zq297
theorem x_changeCsr_iw (mb rb X) (hX : XOk X) (i : NI) (hi : NIOk i) (hlo : ¬ i.op <= 63) (hwr : wrcB i = true) (hm : ¬ i.im = 836) (w) (hw : Hid (XAt w mb rb X)) :
 CX 203 #[.pointer (some ⟨mb, 0, none⟩), niV i] (.tuple #[]) [mb] mb rb (ccrX X i) w := by
 have hlt := hw.out.lt
 have hrlt := hw.out.rlt
 have hlt' : ¬ mb = w.heap.size := by omega
 have A1 := hide1 (fun W h => x_register mb rb X i.rs1 hi.rs1 W h)
 have hwa : Hid (XAt (w.alloc (niC i)) mb rb X) := zq10
 have RC := hide1 (fun W h => x_readCsr mb rb X hX i.im W h)
 have hcl := rcs_lt X hX i.im
 have hol : opdD X i < 4294967296 := by
  unfold opdD; split
  . exact hX.xr _
  . have := hi.rs1; omega
 have hmip := hX.mip
 have WC := hide1 (fun W => x_writesCsr i W)
 unfold ccrX
 have hOK := XS.okR hX i.rd (rcsD X i.im).1 hcl
 have SR := hide1 (fun W h => x_setRegister mb rb X hX.x i.rd (rcsD X i.im).1 hi.rd W h)
 simp only [hwr] at WC
 rw [if_pos hwr, if_neg hm]
 have hop : opdD X i = i.rs1 := by unfold opdD; rw [if_neg hlo]
 rw [hop] at hol
 rw [hop]
 have CH := hide1 (x_changed i.op (rcsD X i.im).1 (i.rs1) hcl hol)
 have hchl := chg_lt i.op (rcsD X i.im).1 (i.rs1) hcl hol
 have CW := hide1 (fun W h => x_csrsWrite mb rb (setXR X i.rd (rcsD X i.im).1) hOK i.im (xchgD i.op (rcsD X i.im).1 (i.rs1)) hchl W h)
 obtain ⟨nv, hnv⟩ := zn1 (xchgD i.op (rcsD X i.im).1 (i.rs1))
 simp only [<- hnv] at CH CW hchl |-
 clear hnv
 obtain ⟨⟨cv, cb⟩, hR⟩ : ∃ r, r = rcsD X i.im := ⟨_, rfl⟩
 simp only [<- hR] at RC hcl hOK SR CH CW |-
 try dsimp only at RC hcl hOK SR CH CW |-
 unfold niC at hwa WC
 unfold niV at WC |-
 have hmp : (setXR X i.rd cv).c.mip = X.c.mip := zq112
 obtain ⟨op, rd, rs1, rs2, im, ln⟩ := i
 dsimp only at *
 obtain ⟨Y, hY⟩ := zn1 (setXR X rd cv)
 simp only [<- hY] at SR hOK hmp CH CW |-
 have qlo : decide (op <= 63) = false := by simp; omega
 exact zq298
theorem x_changeCsr_im (mb rb X) (hX : XOk X) (i : NI) (hi : NIOk i) (hlo : ¬ i.op <= 63) (hwr : wrcB i = true) (hm : i.im = 836) (w) (hw : Hid (XAt w mb rb X)) :
 CX 203 #[.pointer (some ⟨mb, 0, none⟩), niV i] (.tuple #[]) [mb] mb rb (ccrX X i) w := by
 have hlt := hw.out.lt
 have hrlt := hw.out.rlt
 have hlt' : ¬ mb = w.heap.size := by omega
 have A1 := hide1 (fun W h => x_register mb rb X i.rs1 hi.rs1 W h)
 have hwa : Hid (XAt (w.alloc (niC i)) mb rb X) := zq10
 have RC := hide1 (fun W h => x_readCsr mb rb X hX i.im W h)
 have hcl := rcs_lt X hX i.im
 have hol : opdD X i < 4294967296 := by
  unfold opdD; split
  . exact hX.xr _
  . have := hi.rs1; omega
 have hmip := hX.mip
 have WC := hide1 (fun W => x_writesCsr i W)
 unfold ccrX
 have hOK := XS.okR hX i.rd (rcsD X i.im).1 hcl
 have SR := hide1 (fun W h => x_setRegister mb rb X hX.x i.rd (rcsD X i.im).1 hi.rd W h)
 simp only [hwr] at WC
 rw [if_pos hwr, if_pos hm]
 have hop : opdD X i = i.rs1 := by unfold opdD; rw [if_neg hlo]
 rw [hop] at hol
 rw [hop]
 have CH := hide1 (x_changed i.op X.c.mip (i.rs1) (by omega) hol)
 have hchl := chg_lt i.op X.c.mip (i.rs1) (by omega) hol
 have CW := hide1 (fun W h => x_csrsWrite mb rb (setXR X i.rd (rcsD X i.im).1) hOK i.im (xchgD i.op X.c.mip (i.rs1)) hchl W h)
 obtain ⟨nv, hnv⟩ := zn1 (xchgD i.op X.c.mip (i.rs1))
 simp only [<- hnv] at CH CW hchl |-
 clear hnv
 obtain ⟨⟨cv, cb⟩, hR⟩ : ∃ r, r = rcsD X i.im := ⟨_, rfl⟩
 simp only [<- hR] at RC hcl hOK SR CW |-
 try dsimp only at RC hcl hOK SR CW |-
 unfold niC at hwa WC
 unfold niV at WC |-
 have hmp : (setXR X i.rd cv).c.mip = X.c.mip := zq112
 obtain ⟨op, rd, rs1, rs2, im, ln⟩ := i
 dsimp only at *
 obtain ⟨Y, hY⟩ := zn1 (setXR X rd cv)
 simp only [<- hY] at SR hOK hmp CW |-
 have qlo : decide (op <= 63) = false := by simp; omega
 exact zq299
theorem x_changeCsr (mb rb X) (hX : XOk X) (i : NI) (hi : NIOk i) (w) (hw : Hid (XAt w mb rb X)) :
 CX 203 #[.pointer (some ⟨mb, 0, none⟩), niV i] (.tuple #[]) [mb] mb rb (ccrX X i) w := by
 by_cases hlo : i.op <= 63
 . cases hwr : wrcB i with
   | false => exact x_changeCsr_rn mb rb X hX i hi hlo hwr w hw
   | true =>
    by_cases hm : i.im = 836
    . exact x_changeCsr_rm mb rb X hX i hi hlo hwr hm w hw
    . exact x_changeCsr_rw mb rb X hX i hi hlo hwr hm w hw
 . cases hwr : wrcB i with
   | false => exact x_changeCsr_in mb rb X hX i hi hlo hwr w hw
   | true =>
    by_cases hm : i.im = 836
    . exact x_changeCsr_im mb rb X hX i hi hlo hwr hm w hw
    . exact x_changeCsr_iw mb rb X hX i hi hlo hwr hm w hw
theorem hb_bit (v n : Nat) : xhbD v n = bitN v n := rfl
def mrcB (X : XS) (n : Nat) : Bool := if X.mode = 3 then true else if X.mode = 1 then bitN X.c.mcen (n % 32) else bitN (X.c.mcen &&& X.c.scen) (n % 32)
theorem x_mayReadCounter (mb rb X) (hX : XOk X) (n : Nat) (w) (hw : Hid (XAt w mb rb X)) :
 CK 278 #[.pointer (some ⟨mb, 0, none⟩), .int .i64 n] (.bool (mrcB X n)) w := by
 have c34 := hw.out.c34
 have c44 := hw.out.c44
 have c51 := hw.out.c51
 have h1 := hX.mcen
 have h2 := hX.scen
 have hal : (X.c.mcen &&& X.c.scen) < 4294967296 := Nat.lt_of_le_of_lt Nat.and_le_left (by omega)
 have q := b_and X.c.mcen X.c.scen (by omega) (by omega)
 have ek : (n : Int) % 32 = ((n % 32 : Nat) : Int) := by omega
 have H1 := hide1 (x_hasBit X.c.mcen (n % 32) (by omega))
 have H2 := hide1 (x_hasBit (X.c.mcen &&& X.c.scen) (n % 32) hal)
 simp only [hb_bit] at H1 H2
 unfold mrcB
 obtain ⟨k, hk⟩ := zn1 (n % 32)
 simp only [<- hk] at ek H1 H2 |-
 obtain ⟨b1, hb1⟩ := zn1 (bitN X.c.mcen k)
 obtain ⟨b2, hb2⟩ := zn1 (bitN (X.c.mcen &&& X.c.scen) k)
 simp only [<- hb1, <- hb2] at H1 H2 |-
 obtain ⟨u, hu⟩ := zn1 (X.c.mcen &&& X.c.scen)
 rw [<- hu] at q H2
 have hmo := hX.mode
 obtain ⟨m, hm⟩ := zn1 (X.mode)
 rw [<- hm] at c34 hmo |-
 clear hk hb1 hb2 hu hm hX hal h1 h2
 rcases hmo with rfl | rfl | rfl
 . go_enter func278, ntmps278
   go_upto_region 6 with fail
   go_quiet ((go_at_call 187; exact Calls.quiet_of_same (H2.out _)))
   go_wp2_with fail
   go_ret
   exact ⟨rfl, (Kept.refl _ _).drewN _⟩
 . go_enter func278, ntmps278
   go_wp2_with (go_at_call 187; refine (H1.out _).mono ?_; rintro o w5 ⟨rfl, rfl⟩)
   exact zq300
 . go_enter func278, ntmps278
   exact zq301
def mdoB (X : XS) (op : Int) : Bool := if X.mode = 3 then true else if X.mode = 1 then (!decide (op = 67) && !bitN X.c.mstatus (if op = 68 then 22 else if op = 69 then 21 else 20)) else false
theorem x_mayDo (mb rb X) (hX : XOk X) (op : Int) (w) (hw : Hid (XAt w mb rb X)) :
 CK 204 #[.pointer (some ⟨mb, 0, none⟩), .int .i64 op] (.bool (mdoB X op)) w := by
 have c34 := hw.out.c34
 have c38 := hw.out.c38
 have hs := hX.mstatus
 have hmo := hX.mode
 unfold mdoB
 obtain ⟨m, hm⟩ := zn1 (X.mode)
 rw [<- hm] at c34 hmo |-
 obtain ⟨s, hse⟩ := zn1 (X.c.mstatus)
 rw [<- hse] at c38 hs |-
 have HF := hide1 (x_forbidding op)
 have p1 : ∃ f : Nat, (f : Int) = xforD op /\ f < 4294967296 /\ (bits .and .i64 (s : Int) (f : Int) == 0) = !bitN s (if op = 68 then 22 else if op = 69 then 21 else 20) := by
  unfold xforD
  by_cases h1 : op = 68
  . refine ⟨4194304, by simp [h1], by decide, ?_⟩
    rw [b_and s 4194304 (by omega) (by omega), eq0, if_pos h1]; exact t_bit s 22
  . by_cases h2 : op = 69
    . refine ⟨2097152, by simp [h1, h2], by decide, ?_⟩
      rw [b_and s 2097152 (by omega) (by omega), eq0, if_neg h1, if_pos h2]; exact t_bit s 21
    . refine ⟨1048576, by simp [h1, h2], by decide, ?_⟩
      rw [b_and s 1048576 (by omega) (by omega), eq0, if_neg h1, if_neg h2]; exact t_bit s 20
 obtain ⟨f, hf1, hfl, hf2⟩ := p1
 simp only [<- hf1] at HF
 obtain ⟨b, hb⟩ := zn1 (bitN s (if op = 68 then 22 else if op = 69 then 21 else 20))
 rw [<- hb] at hf2 |-
 clear hm hse hb hf1 hX
 rcases hmo with rfl | rfl | rfl
 . exact zq302
 . by_cases h67 : op = 67
   . subst h67
     go_enter func204, ntmps204
     go_upto_region 5 with fail
     go_quiet ((go_at_call 281; exact Calls.quiet_of_same (HF.out _)))
     go_wp2_with fail
     go_ret
     exact ⟨rfl, (Kept.refl _ _).drewN _⟩
   . have q67 : (op != 67) = true := by simp [h67]
     rw [show decide (op = 67) = false by simp [h67]]
     clear h67
     go_enter func204, ntmps204
     go_upto_region 5 with fail
     go_quiet ((go_at_call 281; exact Calls.quiet_of_same (HF.out _)))
     go_wp2_with fail
     go_ret
     exact ⟨by simp, (Kept.refl _ _).drewN _⟩
 . exact zq302
theorem and256 (s : Nat) : (s &&& 256) / 256 = s / 256 % 2 := by
 have h := and_bit s 8
 rw [show (2 : Nat) ^ 8 = 256 from rfl] at h
 rw [h]
 have e : bitN s 8 = decide (s / 256 % 2 = 1) := rfl
 rw [e]
 rcases Nat.mod_two_eq_zero_or_one (s / 256) with h | h <;> rw [h] <;> rfl
def mrtX (X : XS) : XS := unresX { X with mode := X.c.mstatus / 2048 % 4, c := { X.c with mstatus := xmretD X.c.mstatus } }
def srtX (X : XS) : XS := unresX { X with mode := X.c.mstatus / 256 % 2, c := { X.c with mstatus := xsretD X.c.mstatus } }
def prvX (X : XS) (op : Int) : XS := if op = 67 then mrtX X else if op = 68 then srtX X else if op = 69 then { X with waits := true } else X
theorem x_privileged (mb rb X) (hX : XOk X) (op : Int) (w) (hw : Hid (XAt w mb rb X)) :
 CX 205 #[.pointer (some ⟨mb, 0, none⟩), .int .i64 op] (.tuple #[]) [mb] mb rb (prvX X op) w := by
 have c34 := hw.out.c34
 have c35 := hw.out.c35
 have c38 := hw.out.c38
 have hfr := hw.out.fro
 have hs := hX.mstatus
 unfold prvX
 by_cases h1 : op = 67
 . subst h1
   rw [if_pos rfl]
   unfold mrtX
   have p3 : bits .and .i64 (X.c.mstatus : Int) 6144 = ((X.c.mstatus &&& 6144 : Nat) : Int) := b_and X.c.mstatus 6144 (by omega) (by omega)
   have p4 : bits .and .i64 (X.c.mstatus : Int) 6144 / 2048 = ((X.c.mstatus / 2048 % 4 : Nat) : Int) := by rw [p3, <- and6144]; simp
   have MR := hide1 (x_machReturned X.c.mstatus hs)
   obtain ⟨r, hr⟩ := zn1 (xmretD X.c.mstatus)
   simp only [<- hr] at MR |-
   obtain ⟨m, hm⟩ := zn1 (X.c.mstatus / 2048 % 4)
   rw [<- hm] at p4 |-
   have UR := hide1 (fun W h => x_unreserve mb rb { X with mode := m, c := { X.c with mstatus := r } } W h)
   clear hr hm hX p3
   go_enter func205, ntmps205
   go_wp2_with (go_at_call 282; refine (MR.out _).mono ?_; rintro o w5 ⟨rfl, rfl⟩)
   exact zq303
 rw [if_neg h1]
 have q1 : (op == 67) = false := by simp [h1]
 by_cases h2 : op = 68
 . subst h2
   rw [if_pos rfl]
   unfold srtX
   have p3 : bits .and .i64 (X.c.mstatus : Int) 256 = ((X.c.mstatus &&& 256 : Nat) : Int) := b_and X.c.mstatus 256 (by omega) (by omega)
   have p4 : bits .and .i64 (X.c.mstatus : Int) 256 / 256 = ((X.c.mstatus / 256 % 2 : Nat) : Int) := by rw [p3, <- and256]; simp
   have MR := hide1 (x_superReturned X.c.mstatus hs)
   obtain ⟨r, hr⟩ := zn1 (xsretD X.c.mstatus)
   simp only [<- hr] at MR |-
   obtain ⟨m, hm⟩ := zn1 (X.c.mstatus / 256 % 2)
   rw [<- hm] at p4 |-
   have UR := hide1 (fun W h => x_unreserve mb rb { X with mode := m, c := { X.c with mstatus := r } } W h)
   clear hr hm hX p3 h1
   go_enter func205, ntmps205
   go_wp2_with (go_at_call 283; refine (MR.out _).mono ?_; rintro o w5 ⟨rfl, rfl⟩)
   exact zq303
 rw [if_neg h2]
 have q2 : (op == 68) = false := by simp [h2]
 by_cases h3 : op = 69
 . subst h3
   rw [if_pos rfl]
   clear hX h1 h2
   go_enter func205, ntmps205
   go_wp2_with fail
   go_end0
   exact ⟨rfl, hw.out.set 35 _ rfl rfl (by omega), (Kept.refl _ _).setCell (.inl (by simp)) _⟩
 rw [if_neg h3]
 have q3 : (op == 69) = false := by simp [h3]
 clear hX h1 h2 h3
 go_enter func205, ntmps205
 go_wp2_with fail
 go_end0
 exact zq224
def tsX (X : XS) (c t : Nat) : XS := { X with mode := 1, pc := xhdlD X.c.stvec c, c := { X.c with sepc := X.pc, scause := c, stval := t, mstatus := xstrD X.c.mstatus X.mode } }
def tmX (X : XS) (c t : Nat) : XS := { X with mode := 3, pc := xhdlD X.c.mtvec c, c := { X.c with mepc := X.pc, mcause := c, mtval := t, mstatus := xmtrD X.c.mstatus X.mode } }
theorem x_trapToSuper (mb rb X) (hX : XOk X) (c t : Nat) (hc : c < 4294967296) (w) (hw : Hid (XAt w mb rb X)) :
 CX 129 #[.pointer (some ⟨mb, 0, none⟩), .int .i64 c, .int .i64 t] (.tuple #[]) [mb] mb rb (tsX X c t) w := by
 have c33 := hw.out.c33
 have c34 := hw.out.c34
 have c38 := hw.out.c38
 have cv := hw.out.c50
 have ca := hw.out.c53
 have cb := hw.out.c54
 have cc := hw.out.c55
 have hfr := hw.out.fro
 have hs := hX.mstatus
 have hmo := hX.mode
 have hm4 : X.mode < 4 := by omega
 have hv := hX.stvec
 have ST := hide1 (x_superTrapped X.c.mstatus X.mode hs)
 have HD := hide1 (x_handler X.c.stvec c hv hc)
 unfold tsX
 obtain ⟨r, hr⟩ := zn1 (xstrD X.c.mstatus X.mode)
 simp only [<- hr] at ST |-
 obtain ⟨p, hp⟩ := zn1 (xhdlD X.c.stvec c)
 simp only [<- hp] at HD |-
 have HX : Hid (XAt ((((((w.setCell ⟨mb, 53, none⟩ (.int .i64 X.pc)).setCell ⟨mb, 54, none⟩ (.int .i64 c)).setCell ⟨mb, 55, none⟩ (.int .i64 t)).setCell ⟨mb, 38, none⟩ (.int .i64 r)).setCell ⟨mb, 34, none⟩ (.int .i64 1)).setCell ⟨mb, 33, none⟩ (.int .i64 p)) mb rb { X with mode := 1, pc := p, c := { X.c with sepc := X.pc, scause := c, stval := t, mstatus := r } }) := hide1 ((((((hw.out.set (X' := { X with c := { X.c with sepc := X.pc } }) 53 _ rfl rfl (by omega)).set (X' := { X with c := { X.c with sepc := X.pc, scause := c } }) 54 _ rfl rfl (by omega)).set (X' := { X with c := { X.c with sepc := X.pc, scause := c, stval := t } }) 55 _ rfl rfl (by omega)).set (X' := { X with c := { X.c with sepc := X.pc, scause := c, stval := t, mstatus := r } }) 38 _ rfl rfl (by omega)).set (X' := { X with mode := 1, c := { X.c with sepc := X.pc, scause := c, stval := t, mstatus := r } }) 34 _ rfl rfl (by omega)).set 33 _ rfl rfl (by omega))
 clear hr hp hX hmo hv hs
 go_enter func129, ntmps129
 go_upto_region 3 with fail
 go_region_with (go_at_call 188; refine (ST.out _).mono ?_; rintro o w5 ⟨rfl, rfl⟩)
 all_goals
  go_wp2_with (go_at_call 189; refine (HD.out _).mono ?_; rintro o w5 ⟨rfl, rfl⟩)
  go_end0
  refine ⟨rfl, ?_, ?_⟩
  . exact HX.out.drew
  . exact zq304
theorem x_trapToMach (mb rb X) (hX : XOk X) (c t : Nat) (hc : c < 4294967296) (w) (hw : Hid (XAt w mb rb X)) :
 CX 130 #[.pointer (some ⟨mb, 0, none⟩), .int .i64 c, .int .i64 t] (.tuple #[]) [mb] mb rb (tmX X c t) w := by
 have c33 := hw.out.c33
 have c34 := hw.out.c34
 have c38 := hw.out.c38
 have cv := hw.out.c43
 have ca := hw.out.c47
 have cb := hw.out.c48
 have cc := hw.out.c49
 have hfr := hw.out.fro
 have hs := hX.mstatus
 have hmo := hX.mode
 have hm4 : X.mode < 4 := by omega
 have hv := hX.mtvec
 have ST := hide1 (x_machTrapped X.c.mstatus X.mode hs hm4)
 have HD := hide1 (x_handler X.c.mtvec c hv hc)
 unfold tmX
 obtain ⟨r, hr⟩ := zn1 (xmtrD X.c.mstatus X.mode)
 simp only [<- hr] at ST |-
 obtain ⟨p, hp⟩ := zn1 (xhdlD X.c.mtvec c)
 simp only [<- hp] at HD |-
 have HX : Hid (XAt ((((((w.setCell ⟨mb, 47, none⟩ (.int .i64 X.pc)).setCell ⟨mb, 48, none⟩ (.int .i64 c)).setCell ⟨mb, 49, none⟩ (.int .i64 t)).setCell ⟨mb, 38, none⟩ (.int .i64 r)).setCell ⟨mb, 34, none⟩ (.int .i64 3)).setCell ⟨mb, 33, none⟩ (.int .i64 p)) mb rb { X with mode := 3, pc := p, c := { X.c with mepc := X.pc, mcause := c, mtval := t, mstatus := r } }) := hide1 ((((((hw.out.set (X' := { X with c := { X.c with mepc := X.pc } }) 47 _ rfl rfl (by omega)).set (X' := { X with c := { X.c with mepc := X.pc, mcause := c } }) 48 _ rfl rfl (by omega)).set (X' := { X with c := { X.c with mepc := X.pc, mcause := c, mtval := t } }) 49 _ rfl rfl (by omega)).set (X' := { X with c := { X.c with mepc := X.pc, mcause := c, mtval := t, mstatus := r } }) 38 _ rfl rfl (by omega)).set (X' := { X with mode := 3, c := { X.c with mepc := X.pc, mcause := c, mtval := t, mstatus := r } }) 34 _ rfl rfl (by omega)).set 33 _ rfl rfl (by omega))
 clear hr hp hX hmo hv hs
 go_enter func130, ntmps130
 go_upto_region 3 with fail
 go_region_with (go_at_call 190; refine (ST.out _).mono ?_; rintro o w5 ⟨rfl, rfl⟩)
 all_goals
  go_wp2_with (go_at_call 189; refine (HD.out _).mono ?_; rintro o w5 ⟨rfl, rfl⟩)
  go_end0
  refine ⟨rfl, ?_, ?_⟩
  . exact HX.out.drew
  . exact zq304
def tiX (X : XS) (c : Nat) : XS := if dlgB X X.c.mideleg c = true then tsX X (c + 2147483648) 0 else tmX X (c + 2147483648) 0
theorem x_trapInterrupt (mb rb X) (hX : XOk X) (c : Nat) (hc : c < 32) (w) (hw : Hid (XAt w mb rb X)) :
 CX 80 #[.pointer (some ⟨mb, 0, none⟩), .int .i64 c] (.tuple #[]) [mb] mb rb (tiX X c) w := by
 have c40 := hw.out.c40
 have DL := hide1 (x_delegates mb rb X X.c.mideleg c hX.mideleg w hw)
 have TS := hide1 (x_trapToSuper mb rb X hX (c + 2147483648) 0 (by omega))
 have TM := hide1 (x_trapToMach mb rb X hX (c + 2147483648) 0 (by omega))
 have ec : ((c + 2147483648 : Nat) : Int) = (c : Int) + 2147483648 := by omega
 have e0 : ((0 : Nat) : Int) = 0 := rfl
 rw [ec, e0] at TS TM
 unfold tiX
 obtain ⟨b, hb⟩ := zn1 (dlgB X X.c.mideleg c)
 rw [<- hb] at DL |-
 obtain ⟨YS, hYS⟩ := zn1 (tsX X (c + 2147483648) 0)
 obtain ⟨YM, hYM⟩ := zn1 (tmX X (c + 2147483648) 0)
 rw [<- hYS] at TS |-
 rw [<- hYM] at TM |-
 clear hb hYS hYM ec e0 hX
 cases b
 . go_enter func80, ntmps80
   go_wp2_with (first | (go_at_call 128; refine DL.out.mono ?_; rintro o w1 ⟨rfl, rfl⟩) | (go_at_call 130; refine (TM.out _ hw).mono ?_; rintro o w2 ⟨rfl, hx2, hk2⟩))
   go_end0
   exact ⟨rfl, hx2, hk2⟩
 . go_enter func80, ntmps80
   go_wp2_with (first | (go_at_call 128; refine DL.out.mono ?_; rintro o w1 ⟨rfl, rfl⟩) | (go_at_call 129; refine (TS.out _ hw).mono ?_; rintro o w2 ⟨rfl, hx2, hk2⟩))
   refine bodyPost_ret (results_none rfl _ _ _) rfl ?_
   exact ⟨rfl, hx2, hk2⟩
def teX (X : XS) (c t : Nat) : XS := if dlgB X X.c.medeleg c = true then tsX X c t else tmX X c t
theorem x_trapException (mb rb X) (hX : XOk X) (c t : Nat) (hc : c < 32) (w) (hw : Hid (XAt w mb rb X)) :
 CX 83 #[.pointer (some ⟨mb, 0, none⟩), .agg #[.int .i64 c, .int .i64 t]] (.tuple #[]) [mb] mb rb (teX X c t) w := by
 have c39 := hw.out.c39
 have hlt := hw.out.lt
 have hne : ¬ mb = w.heap.size := by omega
 have hwa : Hid (XAt (w.alloc (.cells #[.int .i64 c, .int .i64 t] 118)) mb rb X) := hide1 (hw.out.kept ((Kept.refl _ _).alloc _))
 have DL := hide1 (x_delegates mb rb X X.c.medeleg c hX.medeleg)
 have TS := hide1 (x_trapToSuper mb rb X hX c t (by omega))
 have TM := hide1 (x_trapToMach mb rb X hX c t (by omega))
 unfold teX
 obtain ⟨b, hb⟩ := zn1 (dlgB X X.c.medeleg c)
 rw [<- hb] at DL |-
 obtain ⟨YS, hYS⟩ := zn1 (tsX X c t)
 obtain ⟨YM, hYM⟩ := zn1 (tmX X c t)
 rw [<- hYS] at TS |-
 rw [<- hYM] at TM |-
 clear hb hYS hYM hX
 cases b
 . go_enter func83, ntmps83
   go_upto_region 1 with fail
   go_quiet ((go_at_call 128; exact Calls.quiet_of_same (DL.out _ (hide1 (hwa.out.kept ((Kept.refl [] _).drewN _))))))
   go_upto_region 3 with fail
   have hwb := hide1 (hwa.out.kept ((Kept.refl [] _).drewN nq))
   go_wp2_with (go_at_call 130; refine (TM.out _ hwb).mono ?_; rintro o w2 ⟨rfl, hx2, hk2⟩)
   go_end0
   exact zq305
 . go_enter func83, ntmps83
   go_upto_region 1 with fail
   go_quiet ((go_at_call 128; exact Calls.quiet_of_same (DL.out _ (hide1 (hwa.out.kept ((Kept.refl [] _).drewN _))))))
   go_upto_region 2 with fail
   have hwb := hide1 (hwa.out.kept ((Kept.refl [] _).drewN nq))
   go_wp2_with (go_at_call 129; refine (TS.out _ hwb).mono ?_; rintro o w2 ⟨rfl, hx2, hk2⟩)
   refine bodyPost_ret (results_none rfl _ _ _) rfl ?_
   exact zq305
def incL (a n : Nat) : Nat := (a + n) % 4294967296
def incH (a b n : Nat) : Nat := (b + (a + n) / 4294967296) % 4294967296
def cntB (X : XS) (b1 b2 : Bool) : XS := { X with c := { X.c with cyc := if b1 = true then incL X.c.cyc 1 else X.c.cyc, cych := if b1 = true then incH X.c.cyc X.c.cych 1 else X.c.cych, ret := if b2 = true then incL X.c.ret 1 else X.c.ret, reth := if b2 = true then incH X.c.ret X.c.reth 1 else X.c.reth } }
def cntX (X : XS) (r : Bool) (h : Nat) : XS := cntB X (!bitN h 0) (r && !bitN h 2)
theorem x_plusI (a b n : Nat) (ha : a < 4294967296) (hb : b < 4294967296) (hn : n < 4294967296) (w : World) :
 CK 85 #[.agg #[.int .i64 a, .int .i64 b], .int .i64 n] (.agg #[.int .i64 (incL a n), .int .i64 (incH a b n)]) w := x_plus a b n ha hb hn w
theorem x_count_000 (mb rb X) (hX : XOk X) (h : Nat) (hh : h < 4294967296) (hb1 : bitN h 0 = true) (w) (hw : Hid (XAt w mb rb X)) :
 CX 38 #[.pointer (some ⟨mb, 0, none⟩), .bool false, .int .i64 h] (.tuple #[]) [mb] mb rb (cntB X false false) w := by
 have c57 := hw.out.c57
 have c58 := hw.out.c58
 have c59 := hw.out.c59
 have c60 := hw.out.c60
 have hfr := hw.out.fro
 have q1 : (bits .and .i64 (h : Int) 1 == 0) = false := by
  rw [show (1 : Int) = ((1 : Nat) : Int) from rfl, b_and h 1 (by omega) (by omega), eq0]; exact (t_bit h 0).trans (by rw [hb1]; rfl)
 have P1 := hide1 (x_plusI X.c.cyc X.c.cych 1 hX.cyc hX.cych (by omega))
 have P2 := hide1 (x_plusI X.c.ret X.c.reth 1 hX.ret hX.reth (by omega))
 have e1 : ((1 : Nat) : Int) = 1 := rfl
 rw [e1] at P1 P2
 unfold cntB
 obtain ⟨u1, hu1⟩ := zn1 (incL X.c.cyc 1)
 obtain ⟨v1, hv1⟩ := zn1 (incH X.c.cyc X.c.cych 1)
 obtain ⟨u2, hu2⟩ := zn1 (incL X.c.ret 1)
 obtain ⟨v2, hv2⟩ := zn1 (incH X.c.ret X.c.reth 1)
 simp only [<- hu1, <- hv1] at P1 |-
 simp only [<- hu2, <- hv2] at P2 |-
 clear hu1 hv1 hu2 hv2 e1 hX hb1
 exact zq306
theorem x_count_010 (mb rb X) (hX : XOk X) (h : Nat) (hh : h < 4294967296) (hb1 : bitN h 0 = true) (hb2 : bitN h 2 = true) (w) (hw : Hid (XAt w mb rb X)) :
 CX 38 #[.pointer (some ⟨mb, 0, none⟩), .bool true, .int .i64 h] (.tuple #[]) [mb] mb rb (cntB X false false) w := by
 have c57 := hw.out.c57
 have c58 := hw.out.c58
 have c59 := hw.out.c59
 have c60 := hw.out.c60
 have hfr := hw.out.fro
 have q1 : (bits .and .i64 (h : Int) 1 == 0) = false := by
  rw [show (1 : Int) = ((1 : Nat) : Int) from rfl, b_and h 1 (by omega) (by omega), eq0]; exact (t_bit h 0).trans (by rw [hb1]; rfl)
 have q2 : (bits .and .i64 (h : Int) 4 == 0) = false := by
  rw [show (4 : Int) = ((4 : Nat) : Int) from rfl, b_and h 4 (by omega) (by omega), eq0]; exact (t_bit h 2).trans (by rw [hb2]; rfl)
 have P1 := hide1 (x_plusI X.c.cyc X.c.cych 1 hX.cyc hX.cych (by omega))
 have P2 := hide1 (x_plusI X.c.ret X.c.reth 1 hX.ret hX.reth (by omega))
 have e1 : ((1 : Nat) : Int) = 1 := rfl
 rw [e1] at P1 P2
 unfold cntB
 obtain ⟨u1, hu1⟩ := zn1 (incL X.c.cyc 1)
 obtain ⟨v1, hv1⟩ := zn1 (incH X.c.cyc X.c.cych 1)
 obtain ⟨u2, hu2⟩ := zn1 (incL X.c.ret 1)
 obtain ⟨v2, hv2⟩ := zn1 (incH X.c.ret X.c.reth 1)
 simp only [<- hu1, <- hv1] at P1 |-
 simp only [<- hu2, <- hv2] at P2 |-
 clear hu1 hv1 hu2 hv2 e1 hX hb1 hb2
 exact zq306
theorem x_count_011 (mb rb X) (hX : XOk X) (h : Nat) (hh : h < 4294967296) (hb1 : bitN h 0 = true) (hb2 : bitN h 2 = false) (w) (hw : Hid (XAt w mb rb X)) :
 CX 38 #[.pointer (some ⟨mb, 0, none⟩), .bool true, .int .i64 h] (.tuple #[]) [mb] mb rb (cntB X false true) w := by
 have c57 := hw.out.c57
 have c58 := hw.out.c58
 have c59 := hw.out.c59
 have c60 := hw.out.c60
 have hfr := hw.out.fro
 have q1 : (bits .and .i64 (h : Int) 1 == 0) = false := by
  rw [show (1 : Int) = ((1 : Nat) : Int) from rfl, b_and h 1 (by omega) (by omega), eq0]; exact (t_bit h 0).trans (by rw [hb1]; rfl)
 have q2 : (bits .and .i64 (h : Int) 4 == 0) = true := by
  rw [show (4 : Int) = ((4 : Nat) : Int) from rfl, b_and h 4 (by omega) (by omega), eq0]; exact (t_bit h 2).trans (by rw [hb2]; rfl)
 have P1 := hide1 (x_plusI X.c.cyc X.c.cych 1 hX.cyc hX.cych (by omega))
 have P2 := hide1 (x_plusI X.c.ret X.c.reth 1 hX.ret hX.reth (by omega))
 have e1 : ((1 : Nat) : Int) = 1 := rfl
 rw [e1] at P1 P2
 unfold cntB
 obtain ⟨u1, hu1⟩ := zn1 (incL X.c.cyc 1)
 obtain ⟨v1, hv1⟩ := zn1 (incH X.c.cyc X.c.cych 1)
 obtain ⟨u2, hu2⟩ := zn1 (incL X.c.ret 1)
 obtain ⟨v2, hv2⟩ := zn1 (incH X.c.ret X.c.reth 1)
 simp only [<- hu1, <- hv1] at P1 |-
 simp only [<- hu2, <- hv2] at P2 |-
 clear hu1 hv1 hu2 hv2 e1 hX hb1 hb2
 go_enter func38, ntmps38
 go_wp2_with (go_at_call 85; refine (P2.out _).mono ?_; rintro o w2 ⟨rfl, hk2⟩; have hx2 := hide1 (XAt.kept (by first | exact hw.out | exact hw.out.drew | exact hw.out.drew.drew) hk2); have e59 := hx2.out.c59; have e60 := hx2.out.c60; have efr := hx2.out.fro)
 all_goals
  go_end0
  refine ⟨rfl, ?_, ?_⟩
  . first | exact ((hx2.out.set (X' := { X with c := { X.c with ret := u2 } }) 59 _ rfl rfl (by omega)).set (X' := { X with c := { X.c with ret := u2, reth := v2 } }) 60 _ rfl rfl (by omega)) | exact ((hx2.out.set (X' := { X with c := { X.c with ret := u2 } }) 59 _ rfl rfl (by omega)).set (X' := { X with c := { X.c with ret := u2, reth := v2 } }) 60 _ rfl rfl (by omega)).drew | exact ((hx2.out.set (X' := { X with c := { X.c with ret := u2 } }) 59 _ rfl rfl (by omega)).set (X' := { X with c := { X.c with ret := u2, reth := v2 } }) 60 _ rfl rfl (by omega)).drew.drew
  . repeat (first | (with_reducible exact Kept.refl _ _) | (with_reducible refine Kept.setM ?_ _ _) | (with_reducible refine Kept.setCell ?_ (Or.inr zq492) _) | (with_reducible refine Kept.drew ?_) | (with_reducible refine Kept.drewN ?_ _) | (with_reducible refine Kept.alloc ?_ _) | (with_reducible refine Kept.trans ?_ (hk2.mono (by simp))))
theorem x_count_100 (mb rb X) (hX : XOk X) (h : Nat) (hh : h < 4294967296) (hb1 : bitN h 0 = false) (w) (hw : Hid (XAt w mb rb X)) :
 CX 38 #[.pointer (some ⟨mb, 0, none⟩), .bool false, .int .i64 h] (.tuple #[]) [mb] mb rb (cntB X true false) w := by
 have c57 := hw.out.c57
 have c58 := hw.out.c58
 have c59 := hw.out.c59
 have c60 := hw.out.c60
 have hfr := hw.out.fro
 have q1 : (bits .and .i64 (h : Int) 1 == 0) = true := by
  rw [show (1 : Int) = ((1 : Nat) : Int) from rfl, b_and h 1 (by omega) (by omega), eq0]; exact (t_bit h 0).trans (by rw [hb1]; rfl)
 have P1 := hide1 (x_plusI X.c.cyc X.c.cych 1 hX.cyc hX.cych (by omega))
 have P2 := hide1 (x_plusI X.c.ret X.c.reth 1 hX.ret hX.reth (by omega))
 have e1 : ((1 : Nat) : Int) = 1 := rfl
 rw [e1] at P1 P2
 unfold cntB
 obtain ⟨u1, hu1⟩ := zn1 (incL X.c.cyc 1)
 obtain ⟨v1, hv1⟩ := zn1 (incH X.c.cyc X.c.cych 1)
 obtain ⟨u2, hu2⟩ := zn1 (incL X.c.ret 1)
 obtain ⟨v2, hv2⟩ := zn1 (incH X.c.ret X.c.reth 1)
 simp only [<- hu1, <- hv1] at P1 |-
 simp only [<- hu2, <- hv2] at P2 |-
 clear hu1 hv1 hu2 hv2 e1 hX hb1
 exact zq307
theorem x_count_110 (mb rb X) (hX : XOk X) (h : Nat) (hh : h < 4294967296) (hb1 : bitN h 0 = false) (hb2 : bitN h 2 = true) (w) (hw : Hid (XAt w mb rb X)) :
 CX 38 #[.pointer (some ⟨mb, 0, none⟩), .bool true, .int .i64 h] (.tuple #[]) [mb] mb rb (cntB X true false) w := by
 have c57 := hw.out.c57
 have c58 := hw.out.c58
 have c59 := hw.out.c59
 have c60 := hw.out.c60
 have hfr := hw.out.fro
 have q1 : (bits .and .i64 (h : Int) 1 == 0) = true := by
  rw [show (1 : Int) = ((1 : Nat) : Int) from rfl, b_and h 1 (by omega) (by omega), eq0]; exact (t_bit h 0).trans (by rw [hb1]; rfl)
 have q2 : (bits .and .i64 (h : Int) 4 == 0) = false := by
  rw [show (4 : Int) = ((4 : Nat) : Int) from rfl, b_and h 4 (by omega) (by omega), eq0]; exact (t_bit h 2).trans (by rw [hb2]; rfl)
 have P1 := hide1 (x_plusI X.c.cyc X.c.cych 1 hX.cyc hX.cych (by omega))
 have P2 := hide1 (x_plusI X.c.ret X.c.reth 1 hX.ret hX.reth (by omega))
 have e1 : ((1 : Nat) : Int) = 1 := rfl
 rw [e1] at P1 P2
 unfold cntB
 obtain ⟨u1, hu1⟩ := zn1 (incL X.c.cyc 1)
 obtain ⟨v1, hv1⟩ := zn1 (incH X.c.cyc X.c.cych 1)
 obtain ⟨u2, hu2⟩ := zn1 (incL X.c.ret 1)
 obtain ⟨v2, hv2⟩ := zn1 (incH X.c.ret X.c.reth 1)
 simp only [<- hu1, <- hv1] at P1 |-
 simp only [<- hu2, <- hv2] at P2 |-
 clear hu1 hv1 hu2 hv2 e1 hX hb1 hb2
 exact zq307
theorem x_count_111 (mb rb X) (hX : XOk X) (h : Nat) (hh : h < 4294967296) (hb1 : bitN h 0 = false) (hb2 : bitN h 2 = false) (w) (hw : Hid (XAt w mb rb X)) :
 CX 38 #[.pointer (some ⟨mb, 0, none⟩), .bool true, .int .i64 h] (.tuple #[]) [mb] mb rb (cntB X true true) w := by
 have c57 := hw.out.c57
 have c58 := hw.out.c58
 have c59 := hw.out.c59
 have c60 := hw.out.c60
 have hfr := hw.out.fro
 have q1 : (bits .and .i64 (h : Int) 1 == 0) = true := by
  rw [show (1 : Int) = ((1 : Nat) : Int) from rfl, b_and h 1 (by omega) (by omega), eq0]; exact (t_bit h 0).trans (by rw [hb1]; rfl)
 have q2 : (bits .and .i64 (h : Int) 4 == 0) = true := by
  rw [show (4 : Int) = ((4 : Nat) : Int) from rfl, b_and h 4 (by omega) (by omega), eq0]; exact (t_bit h 2).trans (by rw [hb2]; rfl)
 have P1 := hide1 (x_plusI X.c.cyc X.c.cych 1 hX.cyc hX.cych (by omega))
 have P2 := hide1 (x_plusI X.c.ret X.c.reth 1 hX.ret hX.reth (by omega))
 have e1 : ((1 : Nat) : Int) = 1 := rfl
 rw [e1] at P1 P2
 unfold cntB
 obtain ⟨u1, hu1⟩ := zn1 (incL X.c.cyc 1)
 obtain ⟨v1, hv1⟩ := zn1 (incH X.c.cyc X.c.cych 1)
 obtain ⟨u2, hu2⟩ := zn1 (incL X.c.ret 1)
 obtain ⟨v2, hv2⟩ := zn1 (incH X.c.ret X.c.reth 1)
 simp only [<- hu1, <- hv1] at P1 |-
 simp only [<- hu2, <- hv2] at P2 |-
 clear hu1 hv1 hu2 hv2 e1 hX hb1 hb2
 go_enter func38, ntmps38
 go_upto_region 3 with (go_at_call 85; refine (P1.out _).mono ?_; rintro o w1 ⟨rfl, hk1⟩; have hx1 := hide1 (hw.out.kept (Kept.trans zq523 hk1)); have d57 := hx1.out.c57; have d58 := hx1.out.c58; have d59 := hx1.out.c59; have d60 := hx1.out.c60; have dfr := hx1.out.fro)
 all_goals
  go_wp2_with (go_at_call 85; refine (P2.out _).mono ?_; rintro o w2 ⟨rfl, hk2⟩; have hx2 := hide1 (XAt.kept (by first | exact ((hx1.out.set (X' := { X with c := { X.c with cyc := u1 } }) 57 _ rfl rfl (by omega)).set (X' := { X with c := { X.c with cyc := u1, cych := v1 } }) 58 _ rfl rfl (by omega)) | exact ((hx1.out.set (X' := { X with c := { X.c with cyc := u1 } }) 57 _ rfl rfl (by omega)).set (X' := { X with c := { X.c with cyc := u1, cych := v1 } }) 58 _ rfl rfl (by omega)).drew | exact ((hx1.out.set (X' := { X with c := { X.c with cyc := u1 } }) 57 _ rfl rfl (by omega)).set (X' := { X with c := { X.c with cyc := u1, cych := v1 } }) 58 _ rfl rfl (by omega)).drew.drew) hk2); have e59 := hx2.out.c59; have e60 := hx2.out.c60; have efr := hx2.out.fro)
 all_goals
  go_end0
  refine ⟨rfl, ?_, ?_⟩
  . first | exact ((hx2.out.set (X' := { X with c := { X.c with cyc := u1, cych := v1, ret := u2 } }) 59 _ rfl rfl (by omega)).set (X' := { X with c := { X.c with cyc := u1, cych := v1, ret := u2, reth := v2 } }) 60 _ rfl rfl (by omega)) | exact ((hx2.out.set (X' := { X with c := { X.c with cyc := u1, cych := v1, ret := u2 } }) 59 _ rfl rfl (by omega)).set (X' := { X with c := { X.c with cyc := u1, cych := v1, ret := u2, reth := v2 } }) 60 _ rfl rfl (by omega)).drew | exact ((hx2.out.set (X' := { X with c := { X.c with cyc := u1, cych := v1, ret := u2 } }) 59 _ rfl rfl (by omega)).set (X' := { X with c := { X.c with cyc := u1, cych := v1, ret := u2, reth := v2 } }) 60 _ rfl rfl (by omega)).drew.drew
  . exact zq308
theorem x_count (mb rb X) (hX : XOk X) (r : Bool) (h : Nat) (hh : h < 4294967296) (w) (hw : Hid (XAt w mb rb X)) :
 CX 38 #[.pointer (some ⟨mb, 0, none⟩), .bool r, .int .i64 h] (.tuple #[]) [mb] mb rb (cntX X r h) w := by
 unfold cntX
 cases h1 : bitN h 0 <;> cases r <;> cases h2 : bitN h 2
 . exact x_count_100 mb rb X hX h hh h1 w hw
 . exact x_count_100 mb rb X hX h hh h1 w hw
 . exact x_count_111 mb rb X hX h hh h1 h2 w hw
 . exact x_count_110 mb rb X hX h hh h1 h2 w hw
 . exact x_count_000 mb rb X hX h hh h1 w hw
 . exact x_count_000 mb rb X hX h hh h1 w hw
 . exact x_count_011 mb rb X hX h hh h1 h2 w hw
 . exact x_count_010 mb rb X hX h hh h1 h2 w hw
theorem x_Tick_no (mb : Nat) (n : Int) (h : n < 0 \/ 4294967295 < n) (w : World) :
 CS 68 #[.pointer (some ⟨mb, 0, none⟩), .int .i64 n] (.int .i64 2) w := by
 rcases h with h | h
 . have q : decide (n < 0) = true := by simp [h]
   exact zq309
 . have q : decide (n < 0) = false := by simp; omega
   have q2 : decide (n > 4294967295) = true := by simp; omega
   have q3 : decide (4294967295 < n) = true := by simp; omega
   exact zq309
theorem tick_eq (X : XS) (n : Nat) : { X with b := tickD X.b n } = { X with b := { X.b with time := incL X.b.time n, timeh := incH X.b.time X.b.timeh n } } := rfl
theorem x_Tick (mb rb X) (hX : XOk X) (n : Nat) (hn : n <= 4294967295) (w) (hw : Hid (XAt w mb rb X)) :
 CX 68 #[.pointer (some ⟨mb, 0, none⟩), .int .i64 n] (.int .i64 0) [mb] mb rb ({ X with b := tickD X.b n }) w := by
 have c62 := hw.out.c62
 have c63 := hw.out.c63
 have hfr := hw.out.fro
 have q : decide ((n : Int) < 0) = false := by simp
 have q2 : decide ((n : Int) > 4294967295) = false := by simp; omega
 have q3 : decide (4294967295 < (n : Int)) = false := by simp; omega
 have q3' : decide (4294967295 < n) = false := by simp; omega
 have P1 := hide1 (x_plusI X.b.time X.b.timeh n hX.b.time hX.b.timeh (by omega))
 rw [tick_eq]
 obtain ⟨u1, hu1⟩ := zn1 (incL X.b.time n)
 obtain ⟨v1, hv1⟩ := zn1 (incH X.b.time X.b.timeh n)
 simp only [<- hu1, <- hv1] at P1 |-
 clear hu1 hv1 hX hn
 go_enter func68, ntmps68
 go_wp2_with (go_at_call 85; refine (P1.out _).mono ?_; rintro o w1 ⟨rfl, hk1⟩; have hx1 := hide1 (hw.out.kept hk1); have d62 := hx1.out.c62; have d63 := hx1.out.c63; have dfr := hx1.out.fro)
 all_goals
  go_ret
  refine ⟨rfl, ?_, ?_⟩
  . exact (hx1.out.set (X' := { X with b := { X.b with time := u1 } }) 62 _ rfl rfl (by omega)).set (X' := { X with b := { X.b with time := u1, timeh := v1 } }) 63 _ rfl rfl (by omega)
  . exact zq310
theorem x_Drain (mb rb X w) (hw : Hid (XAt w mb rb X)) :
 CX 70 #[.pointer (some ⟨mb, 0, none⟩)] (.string X.b.tx) [mb] mb rb ({ X with b := { X.b with tx := ⟨#[]⟩ } }) w := by
 have c70 := hw.out.c70
 have hfr := hw.out.fro
 go_enter func70, ntmps70
 go_wp2_with fail
 go_ret
 refine ⟨rfl, ?_, ?_⟩
 . exact hw.out.set 70 _ rfl rfl (by omega)
 . exact zq304
def urwB (X : XS) (p n : Nat) : Bool := X.resd && decide (0 < n) && decide ((X.resv : Int) - 2147483648 < p + n) && decide ((p : Int) < (X.resv : Int) - 2147483648 + 4)
def urwX (X : XS) (p n : Nat) : XS := if urwB X p n = true then unresX X else X
theorem x_unreserveWritten (mb rb X) (hX : XOk X) (p n : Nat) (hp : p <= 65536) (hn : n <= 65536) (w) (hw : Hid (XAt w mb rb X)) :
 CX 36 #[.pointer (some ⟨mb, 0, none⟩), .int .i64 p, .int .i64 n] (.tuple #[]) [mb] mb rb (urwX X p n) w := by
 have c36 := hw.out.c36
 have c37 := hw.out.c37
 have hfr := hw.out.fro
 have hr := hX.resv
 have UR := hide1 (fun W h => x_unreserve mb rb X W h)
 unfold urwX urwB
 obtain ⟨r, hre⟩ := zn1 ((X.resv : Int) - 2147483648 : Int)
 rw [<- hre]
 have hr1 : -2147483648 <= r := by omega
 have hr2 : r < 17184063488 := by omega
 have e1 : wrap64 ((X.resv : Int) - 2147483648) = r := by rw [<- iwrap, hre]; exact wrap_in _ (by omega)
 have e1' : IntKind.i64.wrap ((X.resv : Int) - 2147483648) = r := by rw [iwrap]; exact e1
 have e2 : IntKind.i64.wrap ((p : Int) + n) = p + n := zq115
 have e3 : IntKind.i64.wrap (r + 4) = r + 4 := zq115
 obtain ⟨b1, hb1⟩ := zn1 (X.resd)
 rw [<- hb1] at c36 |-
 obtain ⟨b2, hb2⟩ := zn1 (decide (0 < n))
 obtain ⟨b3, hb3⟩ := zn1 (decide (r < (p : Int) + n))
 obtain ⟨b4, hb4⟩ := zn1 (decide ((p : Int) < r + 4))
 rw [<- hb2, <- hb3, <- hb4]
 have q2 : decide ((n : Int) > 0) = b2 := by rw [hb2]; simp
 have q2' : decide ((0 : Int) < n) = b2 := by rw [hb2]; simp
 have q2n := hb2.symm
 have q3 := hb3.symm
 have q4 := hb4.symm
 clear hb1 hb2 hb3 hb4 hX hre hr hr1 hr2
 cases b1 <;> cases b2 <;> cases b3 <;> cases b4
 all_goals
  go_enter func36, ntmps36
  go_wp2_with (go_at_call 77; refine (UR.out _ hw).mono ?_; rintro o w1 ⟨rfl, hx1, hk1⟩)
  go_end0
  first
  | exact ⟨rfl, hx1, hk1⟩
  | exact ⟨rfl, hw.out, Kept.refl _ _⟩
def mayT (t0 t1 t2 t3 t4 t5 v1 t6 t7 v2 : Bool) : Bool := if t0 = false then false else if t1 = true then false else if (t2 && t3) = true then false else if (t4 && t5) = true then v1 else if (t6 && t7) = true then v2 else true
def mayB (X : XS) (i : NI) : Bool := mayT (rcsD X i.im).2 (decide (X.mode < i.im.toNat / 256 % 4)) (decide (i.im.toNat / 1024 % 4 = 3)) (wrcB i) (decide (i.im.toNat = 384)) (decide (X.mode = 1)) (!bitN X.c.mstatus 20) (decide (3072 <= i.im.toNat)) (decide (i.im.toNat <= 3327)) (mrcB X i.im.toNat)
theorem and3 (a : Nat) : a &&& 3 = a % 4 := Nat.and_two_pow_sub_one_eq_mod a 2
theorem rcs_in (X : XS) (n : Int) (h : (rcsD X n).2 = true) : 0 <= n /\ n <= 3860 := by
 unfold rcsD at h
 split at h
 . omega
 . split at h
   . omega
   . split at h
     . omega
     . have := of_decide_eq_true h; omega
theorem x_mayAccess_no (mb rb X) (hX : XOk X) (i : NI) (h0 : (rcsD X i.im).2 = false) (w) (hw : Hid (XAt w mb rb X)) :
 CK 202 #[.pointer (some ⟨mb, 0, none⟩), niV i] (.bool false) w := by
 have hlt := hw.out.lt
 have hrlt := hw.out.rlt
 have hlt' : ¬ mb = w.heap.size := by omega
 have c34 := hw.out.c34
 have hwa : Hid (XAt (w.alloc (niC i)) mb rb X) := zq10
 have RC := hide1 (fun W h => x_readCsr mb rb X hX i.im W h)
 have WC := hide1 (fun W => x_writesCsr i W)
 obtain ⟨⟨cv, cb⟩, hR⟩ : ∃ r, r = rcsD X i.im := ⟨_, rfl⟩
 simp only [<- hR] at RC h0
 try dsimp only at RC h0
 subst h0
 unfold niC at hwa WC
 unfold niV at WC |-
 obtain ⟨op, rd, rs1, rs2, im, ln⟩ := i
 dsimp only at *
 clear hX hR
 go_enter func202, ntmps202
 go_wp2_with (go_at_call 217; refine (RC.out _ hwa).mono ?_; rintro o w1 ⟨rfl, hk1⟩)
 go_ret
 exact ⟨rfl, Kept.trans ((Kept.refl _ _).alloc _) hk1⟩
theorem x_mayAccess_yes (mb rb X) (hX : XOk X) (i : NI) (h0 : (rcsD X i.im).2 = true) (w) (hw : Hid (XAt w mb rb X)) :
 CK 202 #[.pointer (some ⟨mb, 0, none⟩), niV i] (.bool (mayB X i)) w := by
 have hlt := hw.out.lt
 have hrlt := hw.out.rlt
 have hlt' : ¬ mb = w.heap.size := by omega
 have c34 := hw.out.c34
 have hwa : Hid (XAt (w.alloc (niC i)) mb rb X) := zq10
 have RC := hide1 (fun W h => x_readCsr mb rb X hX i.im W h)
 have WC := hide1 (fun W => x_writesCsr i W)
 obtain ⟨hi0, hi1⟩ := rcs_in X i.im h0
 unfold mayB
 obtain ⟨⟨cv, cb⟩, hR⟩ : ∃ r, r = rcsD X i.im := ⟨_, rfl⟩
 simp only [<- hR] at RC h0 |-
 try dsimp only at RC h0 |-
 subst h0
 obtain ⟨t3, ht3⟩ := zn1 (wrcB i)
 simp only [<- ht3] at WC |-
 unfold niC at hwa WC
 unfold niV at WC |-
 obtain ⟨op, rd, rs1, rs2, im, ln⟩ := i
 dsimp only at *
 obtain ⟨k, rfl⟩ : ∃ k : Nat, im = k := ⟨im.toNat, by omega⟩
 have ek : (k : Int).toNat = k := by omega
 rw [ek]
 have MR := hide1 (fun W h => x_mayReadCounter mb rb X hX k W h)
 have hs := hX.mstatus
 have c38 := hw.out.c38
 have p1 : bits .and .i64 ((k : Int) / 256) 3 = ((k / 256 % 4 : Nat) : Int) := by
  have := b_and (k / 256) 3 (by omega) (by omega)
  rw [and3] at this
  rw [<- this]; simp
 have p2 : bits .and .i64 ((k : Int) / 1024) 3 = ((k / 1024 % 4 : Nat) : Int) := by
  have := b_and (k / 1024) 3 (by omega) (by omega)
  rw [and3] at this
  rw [<- this]; simp
 have p3 : (bits .and .i64 (X.c.mstatus : Int) 1048576 == 0) = !bitN X.c.mstatus 20 := by
  rw [show (1048576 : Int) = ((1048576 : Nat) : Int) from rfl, b_and X.c.mstatus 1048576 (by omega) (by omega), eq0]; exact t_bit X.c.mstatus 20
 obtain ⟨v1, hv1⟩ := zn1 (!bitN X.c.mstatus 20)
 rw [<- hv1] at p3 |-
 obtain ⟨v2, hv2⟩ := zn1 (mrcB X k)
 simp only [<- hv2] at MR |-
 obtain ⟨m, hm⟩ := zn1 (X.mode)
 rw [<- hm] at c34 |-
 obtain ⟨u1, hu1⟩ := zn1 (k / 256 % 4)
 rw [<- hu1] at p1 |-
 obtain ⟨u2, hu2⟩ := zn1 (k / 1024 % 4)
 rw [<- hu2] at p2 |-
 obtain ⟨t1, ht1⟩ := zn1 (decide (m < u1))
 obtain ⟨t2, ht2⟩ := zn1 (decide (u2 = 3))
 obtain ⟨t4, ht4⟩ := zn1 (decide (k = 384))
 obtain ⟨t5, ht5⟩ := zn1 (decide (m = 1))
 obtain ⟨t6, ht6⟩ := zn1 (decide (3072 <= k))
 obtain ⟨t7, ht7⟩ := zn1 (decide (k <= 3327))
 rw [<- ht1, <- ht2, <- ht4, <- ht5, <- ht6, <- ht7]
 have q1 : decide ((u1 : Int) > (m : Int)) = t1 := by rw [ht1]; simp
 have q1a : decide ((m : Int) < (u1 : Int)) = t1 := by rw [ht1]; simp
 have q1b : decide (m < u1) = t1 := ht1.symm
 have q2 : ((u2 : Int) == 3) = t2 := by rw [ht2]; by_cases h : u2 = 3 <;> simp [h] <;> omega
 have q4 : ((k : Int) == 384) = t4 := by rw [ht4]; by_cases h : k = 384 <;> simp [h] <;> omega
 have q5 : ((m : Int) == 1) = t5 := by rw [ht5]; by_cases h : m = 1 <;> simp [h] <;> omega
 have q6 : decide ((k : Int) >= 3072) = t6 := by rw [ht6]; by_cases h : 3072 <= k <;> simp [h] <;> omega
 have q6a : decide (3072 <= (k : Int)) = t6 := by rw [ht6]; by_cases h : 3072 <= k <;> simp [h] <;> omega
 have q6b : decide (3072 <= k) = t6 := ht6.symm
 have q7 : decide ((k : Int) <= 3327) = t7 := by rw [ht7]; by_cases h : k <= 3327 <;> simp [h] <;> omega
 have q7a : decide (k <= 3327) = t7 := ht7.symm
 clear hX hR hv1 hv2 hm hu1 hu2 ht1 ht2 ht3 ht4 ht5 ht6 ht7 ek hi0 hi1 hs
 go_enter func202, ntmps202
 go_upto_region 4 with (go_at_call 217; refine (RC.out _ hwa).mono ?_; rintro o w1 ⟨rfl, hk1⟩)
 have hx1 := hide1 (hwa.out.kept hk1)
 have d38 := hx1.out.c38
 have hl1 := hx1.out.lt
 have hl2 : ¬ mb = w1.heap.size := by omega
 obtain ⟨ic0w1, ic1w1, ic2w1, ic3w1, ic4w1, ic5w1, ifw1, izw1, izw11, inw11, izw12, inw12, izw13, inw13, izw14, inw14⟩ : Zc6 w1 w.heap.size op rd rs1 rs2 (k : Nat) ln := zq166
 have HK : Hid (Kept [] w w1) := hide1 (Kept.trans ((Kept.refl _ _).alloc _) hk1)
 clear hk1
 cases t1
 rotate_left
 . exact zq311
 cases t2
 . exact zq312
 . cases t3
   rotate_left
   . exact zq311
   exact zq312
theorem x_mayAccess (mb rb X) (hX : XOk X) (i : NI) (w) (hw : Hid (XAt w mb rb X)) :
 CK 202 #[.pointer (some ⟨mb, 0, none⟩), niV i] (.bool (mayB X i)) w := by
 cases h0 : (rcsD X i.im).2
 . have e : mayB X i = false := by unfold mayB mayT; rw [if_pos h0]
   rw [e]; exact x_mayAccess_no mb rb X hX i h0 w hw
 . exact x_mayAccess_yes mb rb X hX i h0 w hw
theorem x_carry_ld (mb rb X) (hX : XOk X) (i : NI) (hi : NIOk i) (v : Nat) (hop : 11 <= i.op /\ i.op <= 15) (w) (hw : Hid (XAt w mb rb X)) :
 CX 133 #[.pointer (some ⟨mb, 0, none⟩), niV i, .int .i64 v] (excA (ldX X i).1.1 (ldX X i).1.2) [mb, rb] mb rb ((ldX X i).2) w := by
 have hlt := hw.out.lt
 have hrlt := hw.out.rlt
 have hlt' : ¬ mb = w.heap.size := by omega
 have hlt2 : ¬ mb = w.heap.size + 1 := by omega
 have c33 := hw.out.c33
 have c34 := hw.out.c34
 have hwa : Hid (XAt ((w.alloc (niC i)).alloc (.cells #[.int .i64 0, .int .i64 0] 118)) mb rb X) := zq22
 have HR := hide1 (fun W => x_hasResult i.op W)
 have IB := hide1 (fun W => x_isBranch i.op W)
 simp only [show xresD i.op = false by unfold xresD; simp; omega, show decide (5 <= i.op /\ i.op <= 10) = false by simp; omega] at HR IB
 unfold niC at hwa
 have LD := hide1 (fun W h => x_load mb rb X hX i hi W h)
 unfold niV at LD
 obtain ⟨⟨⟨c, t⟩, Y⟩, hY⟩ : ∃ r, r = ldX X i := ⟨_, rfl⟩
 simp only [<- hY] at LD |-
 try dsimp only at LD |-
 unfold excA at LD
 unfold niV excA
 obtain ⟨op, rd, rs1, rs2, im, ln⟩ := i
 dsimp only at *
 have qg11 : decide (op >= 11) = true := by simp; omega
 have qh11 : decide (11 <= op) = true := by simp; omega
 have qg16 : decide (op >= 16) = false := by simp; omega
 have qh16 : decide (16 <= op) = false := by simp; omega
 have qg50 : decide (op >= 50) = false := by simp; omega
 have qh50 : decide (50 <= op) = false := by simp; omega
 have qg61 : decide (op >= 61) = false := by simp; omega
 have qh61 : decide (61 <= op) = false := by simp; omega
 have qg67 : decide (op >= 67) = false := by simp; omega
 have qh67 : decide (67 <= op) = false := by simp; omega
 have ql15 : decide (op <= 15) = true := by simp; omega
 exact zq313
theorem x_carry_st (mb rb X) (hX : XOk X) (i : NI) (hi : NIOk i) (v : Nat) (hop : 16 <= i.op /\ i.op <= 18) (w) (hw : Hid (XAt w mb rb X)) :
 CX 133 #[.pointer (some ⟨mb, 0, none⟩), niV i, .int .i64 v] (excA (stX X i).1.1 (stX X i).1.2) [mb, rb] mb rb ((stX X i).2) w := by
 have hlt := hw.out.lt
 have hrlt := hw.out.rlt
 have hlt' : ¬ mb = w.heap.size := by omega
 have hlt2 : ¬ mb = w.heap.size + 1 := by omega
 have c33 := hw.out.c33
 have c34 := hw.out.c34
 have hwa : Hid (XAt ((w.alloc (niC i)).alloc (.cells #[.int .i64 0, .int .i64 0] 118)) mb rb X) := zq22
 have HR := hide1 (fun W => x_hasResult i.op W)
 have IB := hide1 (fun W => x_isBranch i.op W)
 simp only [show xresD i.op = false by unfold xresD; simp; omega, show decide (5 <= i.op /\ i.op <= 10) = false by simp; omega] at HR IB
 unfold niC at hwa
 have LD := hide1 (fun W h => x_store mb rb X hX i hi W h)
 unfold niV at LD
 obtain ⟨⟨⟨c, t⟩, Y⟩, hY⟩ : ∃ r, r = stX X i := ⟨_, rfl⟩
 simp only [<- hY] at LD |-
 try dsimp only at LD |-
 unfold excA at LD
 unfold niV excA
 obtain ⟨op, rd, rs1, rs2, im, ln⟩ := i
 dsimp only at *
 have qg11 : decide (op >= 11) = true := by simp; omega
 have qh11 : decide (11 <= op) = true := by simp; omega
 have qg16 : decide (op >= 16) = true := by simp; omega
 have qh16 : decide (16 <= op) = true := by simp; omega
 have qg50 : decide (op >= 50) = false := by simp; omega
 have qh50 : decide (50 <= op) = false := by simp; omega
 have qg61 : decide (op >= 61) = false := by simp; omega
 have qh61 : decide (61 <= op) = false := by simp; omega
 have qg67 : decide (op >= 67) = false := by simp; omega
 have qh67 : decide (67 <= op) = false := by simp; omega
 have ql15 : decide (op <= 15) = false := by simp; omega
 exact zq313
theorem x_carry_at (mb rb X) (hX : XOk X) (i : NI) (hi : NIOk i) (v : Nat) (hop : 50 <= i.op /\ i.op <= 60) (w) (hw : Hid (XAt w mb rb X)) :
 CX 133 #[.pointer (some ⟨mb, 0, none⟩), niV i, .int .i64 v] (excA (atX X i).1.1 (atX X i).1.2) [mb, rb] mb rb ((atX X i).2) w := by
 have hlt := hw.out.lt
 have hrlt := hw.out.rlt
 have hlt' : ¬ mb = w.heap.size := by omega
 have hlt2 : ¬ mb = w.heap.size + 1 := by omega
 have c33 := hw.out.c33
 have c34 := hw.out.c34
 have hwa : Hid (XAt ((w.alloc (niC i)).alloc (.cells #[.int .i64 0, .int .i64 0] 118)) mb rb X) := zq22
 have HR := hide1 (fun W => x_hasResult i.op W)
 have IB := hide1 (fun W => x_isBranch i.op W)
 simp only [show xresD i.op = false by unfold xresD; simp; omega, show decide (5 <= i.op /\ i.op <= 10) = false by simp; omega] at HR IB
 unfold niC at hwa
 have LD := hide1 (fun W h => x_atomic mb rb X hX i hi hop W h)
 unfold niV at LD
 obtain ⟨⟨⟨c, t⟩, Y⟩, hY⟩ : ∃ r, r = atX X i := ⟨_, rfl⟩
 simp only [<- hY] at LD |-
 try dsimp only at LD |-
 unfold excA at LD
 unfold niV excA
 obtain ⟨op, rd, rs1, rs2, im, ln⟩ := i
 dsimp only at *
 have qg11 : decide (op >= 11) = true := by simp; omega
 have qh11 : decide (11 <= op) = true := by simp; omega
 have qg16 : decide (op >= 16) = true := by simp; omega
 have qh16 : decide (16 <= op) = true := by simp; omega
 have qg50 : decide (op >= 50) = true := by simp; omega
 have qh50 : decide (50 <= op) = true := by simp; omega
 have qg61 : decide (op >= 61) = false := by simp; omega
 have qh61 : decide (61 <= op) = false := by simp; omega
 have qg67 : decide (op >= 67) = false := by simp; omega
 have qh67 : decide (67 <= op) = false := by simp; omega
 have ql15 : decide (op <= 15) = false := by simp; omega
 have ql18 : decide (op <= 18) = false := by simp; omega
 exact zq314
theorem x_carry_ec (mb rb X) (hX : XOk X) (i : NI) (hi : NIOk i) (v : Nat) (hop : i.op = 40) (w) (hw : Hid (XAt w mb rb X)) :
 CX 133 #[.pointer (some ⟨mb, 0, none⟩), niV i, .int .i64 v] (excA ((8 + X.mode : Nat) : Int) 0) [mb, rb] mb rb X w := by
 have hlt := hw.out.lt
 have hrlt := hw.out.rlt
 have hlt' : ¬ mb = w.heap.size := by omega
 have hlt2 : ¬ mb = w.heap.size + 1 := by omega
 have c33 := hw.out.c33
 have c34 := hw.out.c34
 have hwa : Hid (XAt ((w.alloc (niC i)).alloc (.cells #[.int .i64 0, .int .i64 0] 118)) mb rb X) := zq22
 have HR := hide1 (fun W => x_hasResult i.op W)
 have IB := hide1 (fun W => x_isBranch i.op W)
 simp only [show xresD i.op = false by unfold xresD; simp; omega, show decide (5 <= i.op /\ i.op <= 10) = false by simp; omega] at HR IB
 unfold niC at hwa
 unfold niV excA
 obtain ⟨op, rd, rs1, rs2, im, ln⟩ := i
 dsimp only at *
 subst hop
 have hmo := hX.mode
 have e8 : ((8 + X.mode : Nat) : Int) = 8 + (X.mode : Int) := by omega
 rw [e8]
 clear hX hi
 go_enter func133, ntmps133
 go_wp2_with (first | (go_at_call 195; refine (HR.out _).mono ?_; rintro o w5 ⟨rfl, rfl⟩) | (go_at_call 192; refine (IB.out _).mono ?_; rintro o w5 ⟨rfl, rfl⟩))
 refine bodyPost_ret (v := .agg #[.int .i64 (8 + (X.mode : Int)), .int .i64 0]) zq524 rfl ⟨rfl, ?_, ?_⟩
 . exact zq315
 . exact zq316
theorem x_carry_eb (mb rb X) (hX : XOk X) (i : NI) (hi : NIOk i) (v : Nat) (hop : i.op = 41) (w) (hw : Hid (XAt w mb rb X)) :
 CX 133 #[.pointer (some ⟨mb, 0, none⟩), niV i, .int .i64 v] (excA 3 X.pc) [mb, rb] mb rb X w := by
 have hlt := hw.out.lt
 have hrlt := hw.out.rlt
 have hlt' : ¬ mb = w.heap.size := by omega
 have hlt2 : ¬ mb = w.heap.size + 1 := by omega
 have c33 := hw.out.c33
 have c34 := hw.out.c34
 have hwa : Hid (XAt ((w.alloc (niC i)).alloc (.cells #[.int .i64 0, .int .i64 0] 118)) mb rb X) := zq22
 have HR := hide1 (fun W => x_hasResult i.op W)
 have IB := hide1 (fun W => x_isBranch i.op W)
 simp only [show xresD i.op = false by unfold xresD; simp; omega, show decide (5 <= i.op /\ i.op <= 10) = false by simp; omega] at HR IB
 unfold niC at hwa
 unfold niV excA
 obtain ⟨op, rd, rs1, rs2, im, ln⟩ := i
 dsimp only at *
 subst hop
 clear hX hi
 go_enter func133, ntmps133
 go_wp2_with (first | (go_at_call 195; refine (HR.out _).mono ?_; rintro o w5 ⟨rfl, rfl⟩) | (go_at_call 192; refine (IB.out _).mono ?_; rintro o w5 ⟨rfl, rfl⟩))
 refine bodyPost_ret (v := .agg #[.int .i64 3, .int .i64 X.pc]) zq524 rfl ⟨rfl, ?_, ?_⟩
 . exact zq315
 . exact zq316
theorem x_carry_br (mb rb X) (hX : XOk X) (i : NI) (hi : NIOk i) (v : Nat) (hop : 5 <= i.op /\ i.op <= 10) (w) (hw : Hid (XAt w mb rb X)) :
 CX 133 #[.pointer (some ⟨mb, 0, none⟩), niV i, .int .i64 v] (excA (-1) 0) [mb, rb] mb rb X w := by
 have hlt := hw.out.lt
 have hrlt := hw.out.rlt
 have hlt' : ¬ mb = w.heap.size := by omega
 have hlt2 : ¬ mb = w.heap.size + 1 := by omega
 have c33 := hw.out.c33
 have c34 := hw.out.c34
 have hwa : Hid (XAt ((w.alloc (niC i)).alloc (.cells #[.int .i64 0, .int .i64 0] 118)) mb rb X) := zq22
 have HR := hide1 (fun W => x_hasResult i.op W)
 have IB := hide1 (fun W => x_isBranch i.op W)
 simp only [show xresD i.op = false by unfold xresD; simp; omega, show decide (5 <= i.op /\ i.op <= 10) = true by simp; omega] at HR IB
 unfold niC at hwa
 unfold niV excA
 obtain ⟨op, rd, rs1, rs2, im, ln⟩ := i
 dsimp only at *
 have qg11 : decide (op >= 11) = false := by simp; omega
 have qh11 : decide (11 <= op) = false := by simp; omega
 have qg16 : decide (op >= 16) = false := by simp; omega
 have qh16 : decide (16 <= op) = false := by simp; omega
 have qg50 : decide (op >= 50) = false := by simp; omega
 have qh50 : decide (50 <= op) = false := by simp; omega
 have qg61 : decide (op >= 61) = false := by simp; omega
 have qh61 : decide (61 <= op) = false := by simp; omega
 have qg67 : decide (op >= 67) = false := by simp; omega
 have qh67 : decide (67 <= op) = false := by simp; omega
 have ql15 : decide (op <= 15) = true := by simp; omega
 have ql18 : decide (op <= 18) = true := by simp; omega
 have ql60 : decide (op <= 60) = true := by simp; omega
 have ql66 : decide (op <= 66) = true := by simp; omega
 have ql70 : decide (op <= 70) = true := by simp; omega
 have qe38 : (op == 38) = false := by simp; omega
 have qe39 : (op == 39) = false := by simp; omega
 have qe40 : (op == 40) = false := by simp; omega
 have qe41 : (op == 41) = false := by simp; omega
 exact zq317
theorem x_carry_f1 (mb rb X) (hX : XOk X) (i : NI) (hi : NIOk i) (v : Nat) (hop : i.op = 38) (w) (hw : Hid (XAt w mb rb X)) :
 CX 133 #[.pointer (some ⟨mb, 0, none⟩), niV i, .int .i64 v] (excA (-1) 0) [mb, rb] mb rb X w := zq318
theorem x_carry_f2 (mb rb X) (hX : XOk X) (i : NI) (hi : NIOk i) (v : Nat) (hop : i.op = 39) (w) (hw : Hid (XAt w mb rb X)) :
 CX 133 #[.pointer (some ⟨mb, 0, none⟩), niV i, .int .i64 v] (excA (-1) 0) [mb, rb] mb rb X w := zq318
theorem x_carry_n0 (mb rb X) (hX : XOk X) (i : NI) (hi : NIOk i) (v : Nat) (hop : i.op <= 0) (w) (hw : Hid (XAt w mb rb X)) :
 CX 133 #[.pointer (some ⟨mb, 0, none⟩), niV i, .int .i64 v] (excA 2 v) [mb, rb] mb rb X w := by
 have hlt := hw.out.lt
 have hrlt := hw.out.rlt
 have hlt' : ¬ mb = w.heap.size := by omega
 have hlt2 : ¬ mb = w.heap.size + 1 := by omega
 have c33 := hw.out.c33
 have c34 := hw.out.c34
 have hwa : Hid (XAt ((w.alloc (niC i)).alloc (.cells #[.int .i64 0, .int .i64 0] 118)) mb rb X) := zq22
 have HR := hide1 (fun W => x_hasResult i.op W)
 have IB := hide1 (fun W => x_isBranch i.op W)
 simp only [show xresD i.op = false by unfold xresD; simp; omega, show decide (5 <= i.op /\ i.op <= 10) = false by simp; omega] at HR IB
 unfold niC at hwa
 unfold niV excA
 obtain ⟨op, rd, rs1, rs2, im, ln⟩ := i
 dsimp only at *
 have qg11 : decide (op >= 11) = false := by simp; omega
 have qh11 : decide (11 <= op) = false := by simp; omega
 have qg16 : decide (op >= 16) = false := by simp; omega
 have qh16 : decide (16 <= op) = false := by simp; omega
 have qg50 : decide (op >= 50) = false := by simp; omega
 have qh50 : decide (50 <= op) = false := by simp; omega
 have qg61 : decide (op >= 61) = false := by simp; omega
 have qh61 : decide (61 <= op) = false := by simp; omega
 have qg67 : decide (op >= 67) = false := by simp; omega
 have qh67 : decide (67 <= op) = false := by simp; omega
 have ql15 : decide (op <= 15) = true := by simp; omega
 have ql18 : decide (op <= 18) = true := by simp; omega
 have ql60 : decide (op <= 60) = true := by simp; omega
 have ql66 : decide (op <= 66) = true := by simp; omega
 have ql70 : decide (op <= 70) = true := by simp; omega
 exact zq319
theorem x_carry_n1 (mb rb X) (hX : XOk X) (i : NI) (hi : NIOk i) (v : Nat) (hop : 71 <= i.op) (w) (hw : Hid (XAt w mb rb X)) :
 CX 133 #[.pointer (some ⟨mb, 0, none⟩), niV i, .int .i64 v] (excA 2 v) [mb, rb] mb rb X w := by
 have hlt := hw.out.lt
 have hrlt := hw.out.rlt
 have hlt' : ¬ mb = w.heap.size := by omega
 have hlt2 : ¬ mb = w.heap.size + 1 := by omega
 have c33 := hw.out.c33
 have c34 := hw.out.c34
 have hwa : Hid (XAt ((w.alloc (niC i)).alloc (.cells #[.int .i64 0, .int .i64 0] 118)) mb rb X) := zq22
 have HR := hide1 (fun W => x_hasResult i.op W)
 have IB := hide1 (fun W => x_isBranch i.op W)
 simp only [show xresD i.op = false by unfold xresD; simp; omega, show decide (5 <= i.op /\ i.op <= 10) = false by simp; omega] at HR IB
 unfold niC at hwa
 unfold niV excA
 obtain ⟨op, rd, rs1, rs2, im, ln⟩ := i
 dsimp only at *
 have qg11 : decide (op >= 11) = true := by simp; omega
 have qh11 : decide (11 <= op) = true := by simp; omega
 have qg16 : decide (op >= 16) = true := by simp; omega
 have qh16 : decide (16 <= op) = true := by simp; omega
 have qg50 : decide (op >= 50) = true := by simp; omega
 have qh50 : decide (50 <= op) = true := by simp; omega
 have qg61 : decide (op >= 61) = true := by simp; omega
 have qh61 : decide (61 <= op) = true := by simp; omega
 have qg67 : decide (op >= 67) = true := by simp; omega
 have qh67 : decide (67 <= op) = true := by simp; omega
 have ql15 : decide (op <= 15) = false := by simp; omega
 have ql18 : decide (op <= 18) = false := by simp; omega
 have ql60 : decide (op <= 60) = false := by simp; omega
 have ql66 : decide (op <= 66) = false := by simp; omega
 have ql70 : decide (op <= 70) = false := by simp; omega
 exact zq319
theorem x_carry_rs (mb rb X) (hX : XOk X) (i : NI) (hi : NIOk i) (v : Nat) (hr : xresD i.op = true) (w) (hw : Hid (XAt w mb rb X)) :
 CX 133 #[.pointer (some ⟨mb, 0, none⟩), niV i, .int .i64 v] (excA (-1) 0) [mb, rb] mb rb (setXR X i.rd (rsvD X i)) w := by
 have hlt := hw.out.lt
 have hrlt := hw.out.rlt
 have hlt' : ¬ mb = w.heap.size := by omega
 have hlt2 : ¬ mb = w.heap.size + 1 := by omega
 have c33 := hw.out.c33
 have c34 := hw.out.c34
 have hwa : Hid (XAt ((w.alloc (niC i)).alloc (.cells #[.int .i64 0, .int .i64 0] 118)) mb rb X) := zq22
 have HR := hide1 (fun W => x_hasResult i.op W)
 have IB := hide1 (fun W => x_isBranch i.op W)
 simp only [hr] at HR
 unfold niC at hwa
 have RS := hide1 (fun W h => x_result mb rb X hX i hi hr W h)
 have SR := hide1 (fun W h => x_setRegister mb rb X hX.x i.rd (rsvD X i) hi.rd W h)
 skip
 unfold niV at RS
 try unfold niV at SR
 obtain ⟨Y, hY⟩ := zn1 ((setXR X i.rd (rsvD X i)))
 simp only [<- hY] at SR |-
 obtain ⟨rv, hrv⟩ := zn1 (rsvD X i)
 simp only [<- hrv] at RS SR
 unfold niV excA
 obtain ⟨op, rd, rs1, rs2, im, ln⟩ := i
 dsimp only at *
 clear hX hi hY hw hrv hr IB
 exact zq320
theorem x_carry_cs (mb rb X) (hX : XOk X) (i : NI) (hi : NIOk i) (v : Nat) (hop : 61 <= i.op /\ i.op <= 66) (hm : mayB X i = true) (w) (hw : Hid (XAt w mb rb X)) :
 CX 133 #[.pointer (some ⟨mb, 0, none⟩), niV i, .int .i64 v] (excA (-1) 0) [mb, rb] mb rb (ccrX X i) w := by
 have hlt := hw.out.lt
 have hrlt := hw.out.rlt
 have hlt' : ¬ mb = w.heap.size := by omega
 have hlt2 : ¬ mb = w.heap.size + 1 := by omega
 have c33 := hw.out.c33
 have c34 := hw.out.c34
 have hwa : Hid (XAt ((w.alloc (niC i)).alloc (.cells #[.int .i64 0, .int .i64 0] 118)) mb rb X) := zq22
 have HR := hide1 (fun W => x_hasResult i.op W)
 have IB := hide1 (fun W => x_isBranch i.op W)
 simp only [show xresD i.op = false by unfold xresD; simp; omega, show decide (5 <= i.op /\ i.op <= 10) = false by simp; omega] at HR IB
 unfold niC at hwa
 have RS := hide1 (fun W h => x_mayAccess mb rb X hX i W h)
 have SR := hide1 (fun W h => x_changeCsr mb rb X hX i hi W h)
 simp only [hm] at RS
 unfold niV at RS
 try unfold niV at SR
 obtain ⟨Y, hY⟩ := zn1 ((ccrX X i))
 simp only [<- hY] at SR |-
 unfold niV excA
 obtain ⟨op, rd, rs1, rs2, im, ln⟩ := i
 dsimp only at *
 have qg11 : decide (op >= 11) = true := by simp; omega
 have qh11 : decide (11 <= op) = true := by simp; omega
 have qg16 : decide (op >= 16) = true := by simp; omega
 have qh16 : decide (16 <= op) = true := by simp; omega
 have qg50 : decide (op >= 50) = true := by simp; omega
 have qh50 : decide (50 <= op) = true := by simp; omega
 have qg61 : decide (op >= 61) = true := by simp; omega
 have qh61 : decide (61 <= op) = true := by simp; omega
 have qg67 : decide (op >= 67) = false := by simp; omega
 have qh67 : decide (67 <= op) = false := by simp; omega
 have ql15 : decide (op <= 15) = false := by simp; omega
 have ql18 : decide (op <= 18) = false := by simp; omega
 have ql60 : decide (op <= 60) = false := by simp; omega
 have ql66 : decide (op <= 66) = true := by simp; omega
 exact zq321
theorem x_carry_pv (mb rb X) (hX : XOk X) (i : NI) (hi : NIOk i) (v : Nat) (hop : 67 <= i.op /\ i.op <= 70) (hm : mdoB X i.op = true) (w) (hw : Hid (XAt w mb rb X)) :
 CX 133 #[.pointer (some ⟨mb, 0, none⟩), niV i, .int .i64 v] (excA (-1) 0) [mb, rb] mb rb (prvX X i.op) w := by
 have hlt := hw.out.lt
 have hrlt := hw.out.rlt
 have hlt' : ¬ mb = w.heap.size := by omega
 have hlt2 : ¬ mb = w.heap.size + 1 := by omega
 have c33 := hw.out.c33
 have c34 := hw.out.c34
 have hwa : Hid (XAt ((w.alloc (niC i)).alloc (.cells #[.int .i64 0, .int .i64 0] 118)) mb rb X) := zq22
 have HR := hide1 (fun W => x_hasResult i.op W)
 have IB := hide1 (fun W => x_isBranch i.op W)
 simp only [show xresD i.op = false by unfold xresD; simp; omega, show decide (5 <= i.op /\ i.op <= 10) = false by simp; omega] at HR IB
 unfold niC at hwa
 have RS := hide1 (fun W h => x_mayDo mb rb X hX i.op W h)
 have SR := hide1 (fun W h => x_privileged mb rb X hX i.op W h)
 simp only [hm] at RS
 try unfold niV at RS
 try unfold niV at SR
 obtain ⟨Y, hY⟩ := zn1 ((prvX X i.op))
 simp only [<- hY] at SR |-
 unfold niV excA
 obtain ⟨op, rd, rs1, rs2, im, ln⟩ := i
 dsimp only at *
 have qg11 : decide (op >= 11) = true := by simp; omega
 have qh11 : decide (11 <= op) = true := by simp; omega
 have qg16 : decide (op >= 16) = true := by simp; omega
 have qh16 : decide (16 <= op) = true := by simp; omega
 have qg50 : decide (op >= 50) = true := by simp; omega
 have qh50 : decide (50 <= op) = true := by simp; omega
 have qg61 : decide (op >= 61) = true := by simp; omega
 have qh61 : decide (61 <= op) = true := by simp; omega
 have qg67 : decide (op >= 67) = true := by simp; omega
 have qh67 : decide (67 <= op) = true := by simp; omega
 have ql15 : decide (op <= 15) = false := by simp; omega
 have ql18 : decide (op <= 18) = false := by simp; omega
 have ql60 : decide (op <= 60) = false := by simp; omega
 have ql66 : decide (op <= 66) = false := by simp; omega
 exact zq321
theorem x_carry_cn (mb rb X) (hX : XOk X) (i : NI) (hi : NIOk i) (v : Nat) (hop : 61 <= i.op /\ i.op <= 66) (hm : mayB X i = false) (w) (hw : Hid (XAt w mb rb X)) :
 CX 133 #[.pointer (some ⟨mb, 0, none⟩), niV i, .int .i64 v] (excA 2 v) [mb, rb] mb rb X w := by
 have hlt := hw.out.lt
 have hrlt := hw.out.rlt
 have hlt' : ¬ mb = w.heap.size := by omega
 have hlt2 : ¬ mb = w.heap.size + 1 := by omega
 have c33 := hw.out.c33
 have c34 := hw.out.c34
 have hwa : Hid (XAt ((w.alloc (niC i)).alloc (.cells #[.int .i64 0, .int .i64 0] 118)) mb rb X) := zq22
 have HR := hide1 (fun W => x_hasResult i.op W)
 have IB := hide1 (fun W => x_isBranch i.op W)
 simp only [show xresD i.op = false by unfold xresD; simp; omega, show decide (5 <= i.op /\ i.op <= 10) = false by simp; omega] at HR IB
 unfold niC at hwa
 have RS := hide1 (fun W h => x_mayAccess mb rb X hX i W h)
 simp only [hm] at RS
 try unfold niV at RS
 unfold niV excA
 obtain ⟨op, rd, rs1, rs2, im, ln⟩ := i
 dsimp only at *
 have qg11 : decide (op >= 11) = true := by simp; omega
 have qh11 : decide (11 <= op) = true := by simp; omega
 have qg16 : decide (op >= 16) = true := by simp; omega
 have qh16 : decide (16 <= op) = true := by simp; omega
 have qg50 : decide (op >= 50) = true := by simp; omega
 have qh50 : decide (50 <= op) = true := by simp; omega
 have qg61 : decide (op >= 61) = true := by simp; omega
 have qh61 : decide (61 <= op) = true := by simp; omega
 have qg67 : decide (op >= 67) = false := by simp; omega
 have qh67 : decide (67 <= op) = false := by simp; omega
 have ql15 : decide (op <= 15) = false := by simp; omega
 have ql18 : decide (op <= 18) = false := by simp; omega
 have ql60 : decide (op <= 60) = false := by simp; omega
 have ql66 : decide (op <= 66) = true := by simp; omega
 exact zq322
theorem x_carry_pn (mb rb X) (hX : XOk X) (i : NI) (hi : NIOk i) (v : Nat) (hop : 67 <= i.op /\ i.op <= 70) (hm : mdoB X i.op = false) (w) (hw : Hid (XAt w mb rb X)) :
 CX 133 #[.pointer (some ⟨mb, 0, none⟩), niV i, .int .i64 v] (excA 2 v) [mb, rb] mb rb X w := by
 have hlt := hw.out.lt
 have hrlt := hw.out.rlt
 have hlt' : ¬ mb = w.heap.size := by omega
 have hlt2 : ¬ mb = w.heap.size + 1 := by omega
 have c33 := hw.out.c33
 have c34 := hw.out.c34
 have hwa : Hid (XAt ((w.alloc (niC i)).alloc (.cells #[.int .i64 0, .int .i64 0] 118)) mb rb X) := zq22
 have HR := hide1 (fun W => x_hasResult i.op W)
 have IB := hide1 (fun W => x_isBranch i.op W)
 simp only [show xresD i.op = false by unfold xresD; simp; omega, show decide (5 <= i.op /\ i.op <= 10) = false by simp; omega] at HR IB
 unfold niC at hwa
 have RS := hide1 (fun W h => x_mayDo mb rb X hX i.op W h)
 simp only [hm] at RS
 try unfold niV at RS
 unfold niV excA
 obtain ⟨op, rd, rs1, rs2, im, ln⟩ := i
 dsimp only at *
 have qg11 : decide (op >= 11) = true := by simp; omega
 have qh11 : decide (11 <= op) = true := by simp; omega
 have qg16 : decide (op >= 16) = true := by simp; omega
 have qh16 : decide (16 <= op) = true := by simp; omega
 have qg50 : decide (op >= 50) = true := by simp; omega
 have qh50 : decide (50 <= op) = true := by simp; omega
 have qg61 : decide (op >= 61) = true := by simp; omega
 have qh61 : decide (61 <= op) = true := by simp; omega
 have qg67 : decide (op >= 67) = true := by simp; omega
 have qh67 : decide (67 <= op) = true := by simp; omega
 have ql15 : decide (op <= 15) = false := by simp; omega
 have ql18 : decide (op <= 18) = false := by simp; omega
 have ql60 : decide (op <= 60) = false := by simp; omega
 have ql66 : decide (op <= 66) = false := by simp; omega
 exact zq322
end
def croX (X : XS) (i : NI) (v : Nat) : (Int × Nat) × XS :=
 if xresD i.op = true then ((-1, 0), setXR X i.rd (rsvD X i))
 else if (5 <= i.op /\ i.op <= 10) \/ i.op = 38 \/ i.op = 39 then ((-1, 0), X)
 else if 11 <= i.op /\ i.op <= 15 then ldX X i
 else if 16 <= i.op /\ i.op <= 18 then stX X i
 else if 50 <= i.op /\ i.op <= 60 then atX X i
 else if i.op = 40 then (((8 + X.mode : Nat), 0), X)
 else if i.op = 41 then ((3, X.pc), X)
 else if (61 <= i.op /\ i.op <= 66) /\ mayB X i = true then ((-1, 0), ccrX X i)
 else if (67 <= i.op /\ i.op <= 70) /\ mdoB X i.op = true then ((-1, 0), prvX X i.op)
 else ((2, v), X)
theorem x_carryOut (mb rb X) (hX : XOk X) (i : NI) (hi : NIOk i) (v : Nat) (w) (hw : Hid (XAt w mb rb X)) :
 CX 133 #[.pointer (some ⟨mb, 0, none⟩), niV i, .int .i64 v] (excA (croX X i v).1.1 (croX X i v).1.2) [mb, rb] mb rb ((croX X i v).2) w := by
 unfold croX
 by_cases h1 : xresD i.op = true
 . rw [if_pos h1]; exact x_carry_rs mb rb X hX i hi v h1 w hw
 rw [if_neg h1]
 by_cases h2 : (5 <= i.op /\ i.op <= 10) \/ i.op = 38 \/ i.op = 39
 . rw [if_pos h2]
   rcases h2 with h | h | h
   . exact x_carry_br mb rb X hX i hi v h w hw
   . exact x_carry_f1 mb rb X hX i hi v h w hw
   . exact x_carry_f2 mb rb X hX i hi v h w hw
 rw [if_neg h2]
 by_cases h3 : 11 <= i.op /\ i.op <= 15
 . rw [if_pos h3]; exact x_carry_ld mb rb X hX i hi v h3 w hw
 rw [if_neg h3]
 by_cases h4 : 16 <= i.op /\ i.op <= 18
 . rw [if_pos h4]; exact x_carry_st mb rb X hX i hi v h4 w hw
 rw [if_neg h4]
 by_cases h5 : 50 <= i.op /\ i.op <= 60
 . rw [if_pos h5]; exact x_carry_at mb rb X hX i hi v h5 w hw
 rw [if_neg h5]
 by_cases h6 : i.op = 40
 . rw [if_pos h6]; exact x_carry_ec mb rb X hX i hi v h6 w hw
 rw [if_neg h6]
 by_cases h7 : i.op = 41
 . rw [if_pos h7]; exact x_carry_eb mb rb X hX i hi v h7 w hw
 rw [if_neg h7]
 by_cases h8 : 61 <= i.op /\ i.op <= 66
 . cases hm : mayB X i
   . rw [if_neg (by simp), if_neg (by omega)]; exact x_carry_cn mb rb X hX i hi v h8 hm w hw
   . rw [if_pos ⟨h8, rfl⟩]; exact x_carry_cs mb rb X hX i hi v h8 hm w hw
 rw [if_neg (fun h => h8 h.1)]
 by_cases h9 : 67 <= i.op /\ i.op <= 70
 . cases hm : mdoB X i.op
   . rw [if_neg (by simp)]; exact x_carry_pn mb rb X hX i hi v h9 hm w hw
   . rw [if_pos ⟨h9, rfl⟩]; exact x_carry_pv mb rb X hX i hi v h9 hm w hw
 rw [if_neg (fun h => h9 h.1)]
 by_cases ha : i.op <= 0
 . exact x_carry_n0 mb rb X hX i hi v ha w hw
 . refine x_carry_n1 mb rb X hX i hi v ?_ w hw
   have h1' : ¬ ((1 <= i.op /\ i.op <= 4) \/ (19 <= i.op /\ i.op <= 37) \/ (42 <= i.op /\ i.op <= 49)) := fun h => h1 (by unfold xresD; exact decide_eq_true h)
   omega
end Go.Proofs.YtmlgonbhoknoiabGreatDoor
