import Derived.Test.YtmlgonbhoknoiaaGreatDoorSAM
set_option maxHeartbeats 8000000
set_option linter.all false
namespace Go.Proofs.YtmlgonbhoknoiaaGreatDoor
open Go.RowKit Go.Proofs.Tryz
section
attribute [local go_sem ↓] Go.wp_at_zero Go.wp_at_succ
theorem set_other (w : World) (b k c j : Nat) (v : Value) (h : ¬ b = c) : (w.setCell ⟨c, k, none⟩ v).cell? ⟨b, j, none⟩ = w.cell? ⟨b, j, none⟩ :=
 World.cell?_setCell_other _ _ _ _ (by intro e; exact h (congrArg Addr.block e).symm)
theorem x_act_t0 (mb rb : Nat) (X : XS) (hI : XInv X) (h1 : X.waits = false) (hc : ¬ intD (wakX X) = -1) (w) (hw : Hid (XAt w mb rb X)) :
 CX 38 #[.pointer (some ⟨mb, 0, none⟩)] (.tuple #[didV 2 (intD (wakX X)), .int .i64 0]) [mb, rb] mb rb (tiX (wakX X) (intD (wakX X)).toNat) w := by
 have hX := hI.ok
 have hlt := hw.out.lt
 have hrlt := hw.out.rlt
 have hlt' : ¬ mb = w.heap.size := by omega
 have hwa : Hid (XAt (w.alloc (.cells #[.int .i64 0, .int .i64 0] 46)) mb rb X) := zq9
 have c35 := hw.out.c35
 have hfr := hw.out.fro
 have hxs := hide1 (hw.out.waitS.alloc (.cells #[.int .i64 0, .int .i64 0] 46))
 simp only [h1] at c35
 have hV := wak_inv hI
 have IT := hide1 (fun W h => x_interrupt mb rb (wakX X) hV.ok W h)
 have hwk : { X with waits := false } = wakX X := rfl
 have hin := int_in (wakX X)
 obtain ⟨n, hn⟩ : ∃ n : Nat, intD (wakX X) = n := ⟨(intD (wakX X)).toNat, by omega⟩
 have TI := hide1 (fun W h => x_trapInterrupt mb rb (wakX X) hV.ok n (by omega) W h)
 simp only [hn, Int.toNat_natCast] at IT hc |-
 have qc : ((n : Int) == -1) = false := zq119
 unfold didV
 try simp only [hwk] at hxs
 obtain ⟨V, hVe⟩ := zn1 (wakX X)
 simp only [<- hVe] at *
 clear hwk hVe hV hc hX hI
 clear h1
 go_enter func38, ntmps38
 go_wp2_with fail
 refine (IT.out _ hxs).mono ?_
 rintro o w1 ⟨rfl, hk1⟩
 have hx1 := hide1 (hxs.out.kept hk1)
 obtain ⟨_, _, _, _, _, _, _, _, _, _, _, _⟩ : Zc2 w1 w.heap.size 0 0 := zq175
 go_wp2_with fail
 refine (TI.out _ hx1).mono ?_
 rintro o w2 ⟨rfl, hx2, hk2⟩
 obtain ⟨_, _, _, _, _, _, _, _, _, _, _, _⟩ : Zc2 w2 w.heap.size 0 0 := zq176
 go_wp2_with fail
 refine bodyPost_ret (v := .tuple #[.agg #[.int .i64 2, .int .i64 n], .int .i64 0]) zq521 rfl ⟨rfl, ?_, ?_⟩
 . exact zq330
 . exact zq304
theorem x_act_e0 (mb rb : Nat) (X : XS) (hI : XInv X) (h1 : X.waits = false) (hc : intD (wakX X) = -1) (he : ¬ (insX (wakX X)).1.2.1 = -1) (w) (hw : Hid (XAt w mb rb X)) :
 CX 38 #[.pointer (some ⟨mb, 0, none⟩)] (.tuple #[didV 1 ((insX (wakX X)).1.2.1), .int .i64 0]) [mb, rb] mb rb (teX (insX (wakX X)).2 (insX (wakX X)).1.2.1.toNat (insX (wakX X)).1.2.2) w := by
 have hX := hI.ok
 have hlt := hw.out.lt
 have hrlt := hw.out.rlt
 have hlt' : ¬ mb = w.heap.size := by omega
 have hwa : Hid (XAt (w.alloc (.cells #[.int .i64 0, .int .i64 0] 46)) mb rb X) := zq9
 have c35 := hw.out.c35
 have hfr := hw.out.fro
 have hxs := hide1 (hw.out.waitS.alloc (.cells #[.int .i64 0, .int .i64 0] 46))
 simp only [h1] at c35
 have hV := wak_inv hI
 have IT := hide1 (fun W h => x_interrupt mb rb (wakX X) hV.ok W h)
 have hwk : { X with waits := false } = wakX X := rfl
 have hin := ins_inv hV
 have IN := hide1 (fun W h => x_instruct mb rb (wakX X) hV.ok W h)
 obtain ⟨⟨⟨N, c, t⟩, Y⟩, hR⟩ : ∃ R, R = insX (wakX X) := ⟨_, rfl⟩
 simp only [<- hR] at IN hin he |-
 try dsimp only at IN hin he |-
 simp only [hc] at IT
 obtain ⟨n, hn⟩ : ∃ n : Nat, c = n := ⟨c.toNat, by omega⟩
 subst hn
 have TE := hide1 (fun W h => x_trapException mb rb Y hin.1.ok n t (by omega) W h)
 simp only [Int.toNat_natCast] at |-
 have qc : ((n : Int) == -1) = false := zq119
 obtain ⟨op, rd, rs1, rs2, im, ln⟩ := N
 unfold niV at *
 unfold excA at IN
 try dsimp only at *
 clear hR hin
 unfold didV
 try simp only [hwk] at hxs
 obtain ⟨V, hVe⟩ := zn1 (wakX X)
 simp only [<- hVe] at *
 clear hwk hVe hV hc hX hI
 clear h1
 go_enter func38, ntmps38
 go_wp2_with fail
 refine (IT.out _ hxs).mono ?_
 rintro o w1 ⟨rfl, hk1⟩
 have hx1 := hide1 (hxs.out.kept hk1)
 obtain ⟨_, _, _, _, _, _, _, _, _, _, _, _⟩ : Zc2 w1 w.heap.size 0 0 := zq175
 go_wp2_with fail
 refine (IN.out _ hx1).mono ?_
 rintro o w2 ⟨rfl, hx2, hk2⟩
 obtain ⟨_, _, _, _, _, _, _, _, _, _, _, _⟩ : Zc2 w2 w.heap.size 0 0 := zq176
 have hx3 := hide1 (((hx2.alloc (.cells #[.int .i64 op, .int .i64 rd, .int .i64 rs1, .int .i64 rs2, .int .i64 im, .int .i64 ln] 53)).alloc (.cells #[.int .i64 n, .int .i64 t] 118)).alloc (.cells #[.int .i64 n, .int .i64 t] 118))
 go_wp2_with (go_at_call 83; refine (x_none _ _ _).mono ?_; rintro o wn ⟨rfl, rfl⟩)
 refine (TE.out _ hx3).mono ?_
 rintro o w3 ⟨rfl, hx4, hk3⟩
 obtain ⟨_, _, _, _, _, _, _, _, _, _, _, _⟩ : Zc2 w3 w.heap.size 0 0 := zq177
 obtain ⟨ic0w3, ic1w3, ic2w3, ic3w3, ic4w3, ic5w3, ifw3, izw3, izw31, inw31, izw32, inw32, izw33, inw33, izw34, inw34⟩ : Zc6 w3 w2.heap.size op rd rs1 rs2 im ln := zq178
 obtain ⟨_, _, _, _, _, _, _, _, _, _, _, _⟩ : Zc2 w3 (w2.heap.size + 1) n t := zq179
 go_wp2_with fail
 refine bodyPost_ret (v := .tuple #[.agg #[.int .i64 1, .int .i64 n], .int .i64 0]) zq521 rfl ⟨rfl, ?_, ?_⟩
 . exact zq331
 . exact zq274
theorem x_act_r0 (mb rb : Nat) (X : XS) (hI : XInv X) (h1 : X.waits = false) (hc : intD (wakX X) = -1) (he : (insX (wakX X)).1.2.1 = -1) (w) (hw : Hid (XAt w mb rb X)) :
 CX 38 #[.pointer (some ⟨mb, 0, none⟩)] (.tuple #[didV 0 0, .int .i64 (cwrD (insX (wakX X)).1.1)]) [mb, rb] mb rb ((insX (wakX X)).2) w := by
 have hX := hI.ok
 have hlt := hw.out.lt
 have hrlt := hw.out.rlt
 have hlt' : ¬ mb = w.heap.size := by omega
 have hwa : Hid (XAt (w.alloc (.cells #[.int .i64 0, .int .i64 0] 46)) mb rb X) := zq9
 have c35 := hw.out.c35
 have hfr := hw.out.fro
 have hxs := hide1 (hw.out.waitS.alloc (.cells #[.int .i64 0, .int .i64 0] 46))
 simp only [h1] at c35
 have hV := wak_inv hI
 have IT := hide1 (fun W h => x_interrupt mb rb (wakX X) hV.ok W h)
 have hwk : { X with waits := false } = wakX X := rfl
 have hin := ins_inv hV
 have IN := hide1 (fun W h => x_instruct mb rb (wakX X) hV.ok W h)
 obtain ⟨⟨⟨N, c, t⟩, Y⟩, hR⟩ : ∃ R, R = insX (wakX X) := ⟨_, rfl⟩
 simp only [<- hR] at IN hin he |-
 try dsimp only at IN hin he |-
 simp only [hc] at IT
 subst he
 have CW := hide1 (fun W => x_countersWritten N W)
 obtain ⟨z, hz⟩ := zn1 (cwrD N)
 simp only [<- hz] at CW |-
 clear hz
 obtain ⟨op, rd, rs1, rs2, im, ln⟩ := N
 unfold niV at *
 unfold excA at IN
 try dsimp only at *
 clear hR hin
 unfold didV
 try simp only [hwk] at hxs
 obtain ⟨V, hVe⟩ := zn1 (wakX X)
 simp only [<- hVe] at *
 clear hwk hVe hV hc hX hI
 clear h1
 go_enter func38, ntmps38
 go_wp2_with fail
 refine (IT.out _ hxs).mono ?_
 rintro o w1 ⟨rfl, hk1⟩
 have hx1 := hide1 (hxs.out.kept hk1)
 obtain ⟨_, _, _, _, _, _, _, _, _, _, _, _⟩ : Zc2 w1 w.heap.size 0 0 := zq175
 go_wp2_with fail
 refine (IN.out _ hx1).mono ?_
 rintro o w2 ⟨rfl, hx2, hk2⟩
 obtain ⟨_, _, _, _, _, _, _, _, _, _, _, _⟩ : Zc2 w2 w.heap.size 0 0 := zq176
 have hx3 := hide1 (((hx2.alloc (.cells #[.int .i64 op, .int .i64 rd, .int .i64 rs1, .int .i64 rs2, .int .i64 im, .int .i64 ln] 53)).alloc (.cells #[.int .i64 (-1), .int .i64 t] 118)).alloc (.cells #[.int .i64 (-1), .int .i64 t] 118))
 go_wp2_with (go_at_call 83; refine (x_none _ _ _).mono ?_; rintro o wn ⟨rfl, rfl⟩)
 refine (CW.out _).mono ?_
 rintro o w3 ⟨rfl, hk3⟩
 have hx4 := hx3.out.kept hk3
 obtain ⟨_, _, _, _, _, _, _, _, _, _, _, _⟩ : Zc2 w3 w.heap.size 0 0 := zq177
 obtain ⟨ic0w3, ic1w3, ic2w3, ic3w3, ic4w3, ic5w3, ifw3, izw3, izw31, inw31, izw32, inw32, izw33, inw33, izw34, inw34⟩ : Zc6 w3 w2.heap.size op rd rs1 rs2 im ln := zq178
 obtain ⟨_, _, _, _, _, _, _, _, _, _, _, _⟩ : Zc2 w3 (w2.heap.size + 1) (-1) t := zq179
 go_wp2_with fail
 refine bodyPost_ret (v := .tuple #[.agg #[.int .i64 0, .int .i64 0], .int .i64 z]) zq521 rfl ⟨rfl, ?_, ?_⟩
 . exact zq331
 . exact zq274
theorem x_act_t1 (mb rb : Nat) (X : XS) (hI : XInv X) (h1 : X.waits = true) (h2 : ¬ askD X = 0) (hc : ¬ intD (wakX X) = -1) (w) (hw : Hid (XAt w mb rb X)) :
 CX 38 #[.pointer (some ⟨mb, 0, none⟩)] (.tuple #[didV 2 (intD (wakX X)), .int .i64 0]) [mb, rb] mb rb (tiX (wakX X) (intD (wakX X)).toNat) w := by
 have hX := hI.ok
 have hlt := hw.out.lt
 have hrlt := hw.out.rlt
 have hlt' : ¬ mb = w.heap.size := by omega
 have hwa : Hid (XAt (w.alloc (.cells #[.int .i64 0, .int .i64 0] 46)) mb rb X) := zq9
 have c35 := hw.out.c35
 have hfr := hw.out.fro
 have AS := hide1 (fun W h => x_asked mb rb X hX W h)
 obtain ⟨q, hq⟩ := zn1 (askD X)
 simp only [<- hq] at AS h2
 have q0 : ((q : Int) == 0) = false := by simp [h2]
 simp only [h1] at c35
 have hws : Hid (∀ W, XAt W mb rb X -> XAt (W.setCell ⟨mb, 35, none⟩ (.bool false)) mb rb (wakX X)) := fun W h => h.waitS
 have hV := wak_inv hI
 have IT := hide1 (fun W h => x_interrupt mb rb (wakX X) hV.ok W h)
 have hwk : { X with waits := false } = wakX X := rfl
 have hin := int_in (wakX X)
 obtain ⟨n, hn⟩ : ∃ n : Nat, intD (wakX X) = n := ⟨(intD (wakX X)).toNat, by omega⟩
 have TI := hide1 (fun W h => x_trapInterrupt mb rb (wakX X) hV.ok n (by omega) W h)
 simp only [hn, Int.toNat_natCast] at IT hc |-
 have qc : ((n : Int) == -1) = false := zq119
 unfold didV
 skip
 obtain ⟨V, hVe⟩ := zn1 (wakX X)
 simp only [<- hVe] at *
 clear hwk hVe hV hc hX hI
 clear h1 h2 hq
 go_enter func38, ntmps38
 go_wp2_with fail
 refine (AS.out _ hwa).mono ?_
 rintro o w0 ⟨rfl, hk0⟩
 obtain ⟨_, _, _, _, _, _, _, _, _, _, _, _⟩ : Zc2 w0 w.heap.size 0 0 := zq180
 have hx0 := hwa.out.kept hk0
 have c35b := hx0.c35
 have hf0 := hx0.fro
 have hl0 := hx0.lt
 have hxs := hide1 (hws.out _ hx0)
 go_wp2_with fail
 refine (IT.out _ hxs).mono ?_
 rintro o w1 ⟨rfl, hk1⟩
 have hx1 := hide1 (hxs.out.kept hk1)
 obtain ⟨_, _, _, _, _, _, _, _, _, _, _, _⟩ : Zc2 w1 w.heap.size 0 0 := zq175
 go_wp2_with fail
 refine (TI.out _ hx1).mono ?_
 rintro o w2 ⟨rfl, hx2, hk2⟩
 obtain ⟨_, _, _, _, _, _, _, _, _, _, _, _⟩ : Zc2 w2 w.heap.size 0 0 := zq176
 go_wp2_with fail
 refine bodyPost_ret (v := .tuple #[.agg #[.int .i64 2, .int .i64 n], .int .i64 0]) zq521 rfl ⟨rfl, ?_, ?_⟩
 . exact zq330
 . repeat (first | (with_reducible exact Kept.refl _ _) | (with_reducible refine Kept.setM ?_ _ _) | (with_reducible refine Kept.setCell ?_ (Or.inr zq485) _) | (with_reducible refine Kept.drew ?_) | (with_reducible refine Kept.drewN ?_ _) | (with_reducible refine Kept.alloc ?_ _) | (with_reducible refine Kept.trans ?_ (hk2.mono (by simp))) | (with_reducible refine Kept.trans ?_ (hk1.mono (by simp))) | (with_reducible refine Kept.trans ?_ (hk0.mono (by simp))))
theorem x_act_e1 (mb rb : Nat) (X : XS) (hI : XInv X) (h1 : X.waits = true) (h2 : ¬ askD X = 0) (hc : intD (wakX X) = -1) (he : ¬ (insX (wakX X)).1.2.1 = -1) (w) (hw : Hid (XAt w mb rb X)) :
 CX 38 #[.pointer (some ⟨mb, 0, none⟩)] (.tuple #[didV 1 ((insX (wakX X)).1.2.1), .int .i64 0]) [mb, rb] mb rb (teX (insX (wakX X)).2 (insX (wakX X)).1.2.1.toNat (insX (wakX X)).1.2.2) w := by
 have hX := hI.ok
 have hlt := hw.out.lt
 have hrlt := hw.out.rlt
 have hlt' : ¬ mb = w.heap.size := by omega
 have hwa : Hid (XAt (w.alloc (.cells #[.int .i64 0, .int .i64 0] 46)) mb rb X) := zq9
 have c35 := hw.out.c35
 have hfr := hw.out.fro
 have AS := hide1 (fun W h => x_asked mb rb X hX W h)
 obtain ⟨q, hq⟩ := zn1 (askD X)
 simp only [<- hq] at AS h2
 have q0 : ((q : Int) == 0) = false := by simp [h2]
 simp only [h1] at c35
 have hws : Hid (∀ W, XAt W mb rb X -> XAt (W.setCell ⟨mb, 35, none⟩ (.bool false)) mb rb (wakX X)) := fun W h => h.waitS
 have hV := wak_inv hI
 have IT := hide1 (fun W h => x_interrupt mb rb (wakX X) hV.ok W h)
 have hwk : { X with waits := false } = wakX X := rfl
 have hin := ins_inv hV
 have IN := hide1 (fun W h => x_instruct mb rb (wakX X) hV.ok W h)
 obtain ⟨⟨⟨N, c, t⟩, Y⟩, hR⟩ : ∃ R, R = insX (wakX X) := ⟨_, rfl⟩
 simp only [<- hR] at IN hin he |-
 try dsimp only at IN hin he |-
 simp only [hc] at IT
 obtain ⟨n, hn⟩ : ∃ n : Nat, c = n := ⟨c.toNat, by omega⟩
 subst hn
 have TE := hide1 (fun W h => x_trapException mb rb Y hin.1.ok n t (by omega) W h)
 simp only [Int.toNat_natCast] at |-
 have qc : ((n : Int) == -1) = false := zq119
 obtain ⟨op, rd, rs1, rs2, im, ln⟩ := N
 unfold niV at *
 unfold excA at IN
 try dsimp only at *
 clear hR hin
 unfold didV
 skip
 obtain ⟨V, hVe⟩ := zn1 (wakX X)
 simp only [<- hVe] at *
 clear hwk hVe hV hc hX hI
 clear h1 h2 hq
 go_enter func38, ntmps38
 go_wp2_with fail
 refine (AS.out _ hwa).mono ?_
 rintro o w0 ⟨rfl, hk0⟩
 obtain ⟨_, _, _, _, _, _, _, _, _, _, _, _⟩ : Zc2 w0 w.heap.size 0 0 := zq180
 have hx0 := hwa.out.kept hk0
 have c35b := hx0.c35
 have hf0 := hx0.fro
 have hl0 := hx0.lt
 have hxs := hide1 (hws.out _ hx0)
 go_wp2_with fail
 refine (IT.out _ hxs).mono ?_
 rintro o w1 ⟨rfl, hk1⟩
 have hx1 := hide1 (hxs.out.kept hk1)
 obtain ⟨_, _, _, _, _, _, _, _, _, _, _, _⟩ : Zc2 w1 w.heap.size 0 0 := zq175
 go_wp2_with fail
 refine (IN.out _ hx1).mono ?_
 rintro o w2 ⟨rfl, hx2, hk2⟩
 obtain ⟨_, _, _, _, _, _, _, _, _, _, _, _⟩ : Zc2 w2 w.heap.size 0 0 := zq176
 have hx3 := hide1 (((hx2.alloc (.cells #[.int .i64 op, .int .i64 rd, .int .i64 rs1, .int .i64 rs2, .int .i64 im, .int .i64 ln] 53)).alloc (.cells #[.int .i64 n, .int .i64 t] 118)).alloc (.cells #[.int .i64 n, .int .i64 t] 118))
 go_wp2_with (go_at_call 83; refine (x_none _ _ _).mono ?_; rintro o wn ⟨rfl, rfl⟩)
 refine (TE.out _ hx3).mono ?_
 rintro o w3 ⟨rfl, hx4, hk3⟩
 obtain ⟨_, _, _, _, _, _, _, _, _, _, _, _⟩ : Zc2 w3 w.heap.size 0 0 := zq177
 obtain ⟨ic0w3, ic1w3, ic2w3, ic3w3, ic4w3, ic5w3, ifw3, izw3, izw31, inw31, izw32, inw32, izw33, inw33, izw34, inw34⟩ : Zc6 w3 w2.heap.size op rd rs1 rs2 im ln := zq178
 obtain ⟨_, _, _, _, _, _, _, _, _, _, _, _⟩ : Zc2 w3 (w2.heap.size + 1) n t := zq179
 go_wp2_with fail
 refine bodyPost_ret (v := .tuple #[.agg #[.int .i64 1, .int .i64 n], .int .i64 0]) zq521 rfl ⟨rfl, ?_, ?_⟩
 . exact zq331
 . exact zq332
theorem x_act_r1 (mb rb : Nat) (X : XS) (hI : XInv X) (h1 : X.waits = true) (h2 : ¬ askD X = 0) (hc : intD (wakX X) = -1) (he : (insX (wakX X)).1.2.1 = -1) (w) (hw : Hid (XAt w mb rb X)) :
 CX 38 #[.pointer (some ⟨mb, 0, none⟩)] (.tuple #[didV 0 0, .int .i64 (cwrD (insX (wakX X)).1.1)]) [mb, rb] mb rb ((insX (wakX X)).2) w := by
 have hX := hI.ok
 have hlt := hw.out.lt
 have hrlt := hw.out.rlt
 have hlt' : ¬ mb = w.heap.size := by omega
 have hwa : Hid (XAt (w.alloc (.cells #[.int .i64 0, .int .i64 0] 46)) mb rb X) := zq9
 have c35 := hw.out.c35
 have hfr := hw.out.fro
 have AS := hide1 (fun W h => x_asked mb rb X hX W h)
 obtain ⟨q, hq⟩ := zn1 (askD X)
 simp only [<- hq] at AS h2
 have q0 : ((q : Int) == 0) = false := by simp [h2]
 simp only [h1] at c35
 have hws : Hid (∀ W, XAt W mb rb X -> XAt (W.setCell ⟨mb, 35, none⟩ (.bool false)) mb rb (wakX X)) := fun W h => h.waitS
 have hV := wak_inv hI
 have IT := hide1 (fun W h => x_interrupt mb rb (wakX X) hV.ok W h)
 have hwk : { X with waits := false } = wakX X := rfl
 have hin := ins_inv hV
 have IN := hide1 (fun W h => x_instruct mb rb (wakX X) hV.ok W h)
 obtain ⟨⟨⟨N, c, t⟩, Y⟩, hR⟩ : ∃ R, R = insX (wakX X) := ⟨_, rfl⟩
 simp only [<- hR] at IN hin he |-
 try dsimp only at IN hin he |-
 simp only [hc] at IT
 subst he
 have CW := hide1 (fun W => x_countersWritten N W)
 obtain ⟨z, hz⟩ := zn1 (cwrD N)
 simp only [<- hz] at CW |-
 clear hz
 obtain ⟨op, rd, rs1, rs2, im, ln⟩ := N
 unfold niV at *
 unfold excA at IN
 try dsimp only at *
 clear hR hin
 unfold didV
 skip
 obtain ⟨V, hVe⟩ := zn1 (wakX X)
 simp only [<- hVe] at *
 clear hwk hVe hV hc hX hI
 clear h1 h2 hq
 go_enter func38, ntmps38
 go_wp2_with fail
 refine (AS.out _ hwa).mono ?_
 rintro o w0 ⟨rfl, hk0⟩
 obtain ⟨_, _, _, _, _, _, _, _, _, _, _, _⟩ : Zc2 w0 w.heap.size 0 0 := zq180
 have hx0 := hwa.out.kept hk0
 have c35b := hx0.c35
 have hf0 := hx0.fro
 have hl0 := hx0.lt
 have hxs := hide1 (hws.out _ hx0)
 go_wp2_with fail
 refine (IT.out _ hxs).mono ?_
 rintro o w1 ⟨rfl, hk1⟩
 have hx1 := hide1 (hxs.out.kept hk1)
 obtain ⟨_, _, _, _, _, _, _, _, _, _, _, _⟩ : Zc2 w1 w.heap.size 0 0 := zq175
 go_wp2_with fail
 refine (IN.out _ hx1).mono ?_
 rintro o w2 ⟨rfl, hx2, hk2⟩
 obtain ⟨_, _, _, _, _, _, _, _, _, _, _, _⟩ : Zc2 w2 w.heap.size 0 0 := zq176
 have hx3 := hide1 (((hx2.alloc (.cells #[.int .i64 op, .int .i64 rd, .int .i64 rs1, .int .i64 rs2, .int .i64 im, .int .i64 ln] 53)).alloc (.cells #[.int .i64 (-1), .int .i64 t] 118)).alloc (.cells #[.int .i64 (-1), .int .i64 t] 118))
 go_wp2_with (go_at_call 83; refine (x_none _ _ _).mono ?_; rintro o wn ⟨rfl, rfl⟩)
 refine (CW.out _).mono ?_
 rintro o w3 ⟨rfl, hk3⟩
 have hx4 := hx3.out.kept hk3
 obtain ⟨_, _, _, _, _, _, _, _, _, _, _, _⟩ : Zc2 w3 w.heap.size 0 0 := zq177
 obtain ⟨ic0w3, ic1w3, ic2w3, ic3w3, ic4w3, ic5w3, ifw3, izw3, izw31, inw31, izw32, inw32, izw33, inw33, izw34, inw34⟩ : Zc6 w3 w2.heap.size op rd rs1 rs2 im ln := zq178
 obtain ⟨_, _, _, _, _, _, _, _, _, _, _, _⟩ : Zc2 w3 (w2.heap.size + 1) (-1) t := zq179
 go_wp2_with fail
 refine bodyPost_ret (v := .tuple #[.agg #[.int .i64 0, .int .i64 0], .int .i64 z]) zq521 rfl ⟨rfl, ?_, ?_⟩
 . exact zq331
 . exact zq332
theorem x_act (mb rb : Nat) (X : XS) (hI : XInv X) (w) (hw : Hid (XAt w mb rb X)) :
 CX 38 #[.pointer (some ⟨mb, 0, none⟩)] (.tuple #[didV (actX X).1.1 (actX X).1.2.1, .int .i64 (actX X).1.2.2]) [mb, rb] mb rb ((actX X).2) w := by
 unfold actX
 by_cases h1 : X.waits = true
 . by_cases h2 : askD X = 0
   . rw [if_pos (by simp [h1, h2])]; exact x_act_i mb rb X hI h1 h2 w hw
   . rw [if_neg (by simp [h1, h2])]
     by_cases hc : intD (wakX X) = -1
     . rw [if_pos hc]; unfold actE
       by_cases he : (insX (wakX X)).1.2.1 = -1
       . rw [if_pos he]; exact x_act_r1 mb rb X hI h1 h2 hc he w hw
       . rw [if_neg he]; exact x_act_e1 mb rb X hI h1 h2 hc he w hw
     . rw [if_neg hc]; exact x_act_t1 mb rb X hI h1 h2 hc w hw
 . rw [if_neg (by simp [h1])]
   have h1 : X.waits = false := by simpa using h1
   by_cases hc : intD (wakX X) = -1
   . rw [if_pos hc]; unfold actE
     by_cases he : (insX (wakX X)).1.2.1 = -1
     . rw [if_pos he]; exact x_act_r0 mb rb X hI h1 hc he w hw
     . rw [if_neg he]; exact x_act_e0 mb rb X hI h1 hc he w hw
   . rw [if_neg hc]; exact x_act_t0 mb rb X hI h1 hc w hw
def stepX (X : XS) : (Int × Int) × XS := (((actX X).1.1, (actX X).1.2.1), cntX (actX X).2 (decide ((actX X).1.1 = 0)) (X.c.minh ||| (actX X).1.2.2.toNat))
theorem cwr_in (i : NI) : cwrD i = 0 \/ cwrD i = 1 \/ cwrD i = 4 := by
 unfold cwrD; repeat' split
 all_goals omega
theorem act_in (X : XS) : (actX X).1.2.2 = 0 \/ (actX X).1.2.2 = 1 \/ (actX X).1.2.2 = 4 := by
 unfold actX actE
 split
 . exact .inl rfl
 split
 . split
   . exact cwr_in _
   . exact .inl rfl
 . exact .inl rfl
theorem step_inv {X : XS} (h : XInv X) : XInv (stepX X).2 := cnt_inv (act_inv h).1 _ _
theorem x_Step (mb rb : Nat) (X : XS) (hI : XInv X) (w) (hw : Hid (XAt w mb rb X)) :
 CX 25 #[.pointer (some ⟨mb, 0, none⟩)] (didV (stepX X).1.1 (stepX X).1.2) [mb, rb] mb rb ((stepX X).2) w := by
 have hlt := hw.out.lt
 have hrlt := hw.out.rlt
 have hlt' : ¬ mb = w.heap.size := by omega
 have c45 := hw.out.c45
 have hwa : Hid (XAt (w.alloc (.cells #[.int .i64 0, .int .i64 0] 46)) mb rb X) := zq9
 have AC := hide1 (fun W h => x_act mb rb X hI W h)
 have hai := act_inv hI
 have han := act_in X
 unfold stepX
 obtain ⟨⟨⟨k, c, z⟩, Y⟩, hR⟩ : ∃ R, R = actX X := ⟨_, rfl⟩
 simp only [<- hR] at AC hai han |-
 try dsimp only at AC hai han |-
 obtain ⟨v, hv⟩ : ∃ v : Nat, z = v := ⟨z.toNat, by omega⟩
 subst hv
 simp only [Int.toNat_natCast] at |-
 obtain ⟨m, hm⟩ := zn1 (X.c.minh)
 have hm8 := hI.ok.minh
 simp only [<- hm] at c45 hm8 |-
 have o1 := b_or m v (by omega) (by omega)
 have hlt2 : (m ||| v) < 4294967296 := nat_or_lt m v 32 (by omega) (by omega)
 obtain ⟨u, hu⟩ := zn1 (m ||| v)
 simp only [<- hu] at o1 hlt2 |-
 obtain ⟨r, hr⟩ := zn1 (decide (k = 0))
 have hr2 : (k == 0) = r := by rw [hr]; by_cases h : k = 0 <;> simp [h]
 have CN := hide1 (fun W h => x_count mb rb Y hai.1.ok r u hlt2 W h)
 simp only [<- hr] at |-
 unfold didV at *
 clear hw hI hR hai han hm hm8 hu hr hlt2
 go_enter func25, ntmps25
 go_wp2_with fail
 refine (AC.out _ hwa).mono ?_
 rintro o w1 ⟨rfl, hx1, hk1⟩
 obtain ⟨_, _, _, _, _, _, _, _, _, _, _, _⟩ : Zc2 w1 w.heap.size 0 0 := zq164
 have hx2 := hide1 (hx1.alloc (.cells #[.int .i64 k, .int .i64 c] 46))
 go_wp2_with fail
 refine (CN.out _ hx2).mono ?_
 rintro o w2 ⟨rfl, hx3, hk2⟩
 have dc0w2 : w2.cell? ⟨w.heap.size, 0, none⟩ = some (.int .i64 0) := zq132
 have dc1w2 : w2.cell? ⟨w.heap.size, 1, none⟩ = some (.int .i64 0) := zq132
 have dfw2 : ∀ o, w2.frozen? ⟨w.heap.size, o, none⟩ = false := fun o => (hk2.frozen zq522 zq522).trans zq523
 have dzw2 : w.heap.size < w2.heap.size := zq61
 have dzw21 : w.heap.size < w2.heap.size + 1 := by omega
 have dnw21 : ¬ w.heap.size = w2.heap.size + 1 := by omega
 have dzw22 : w.heap.size < w2.heap.size + 1 + 1 := by omega
 have dnw22 : ¬ w.heap.size = w2.heap.size + 1 + 1 := by omega
 have dzw23 : w.heap.size < w2.heap.size + 1 + 1 + 1 := by omega
 have dnw23 : ¬ w.heap.size = w2.heap.size + 1 + 1 + 1 := by omega
 have dzw24 : w.heap.size < w2.heap.size + 1 + 1 + 1 + 1 := by omega
 have dnw24 : ¬ w.heap.size = w2.heap.size + 1 + 1 + 1 + 1 := by omega
 have lc0w2 : w2.cell? ⟨w1.heap.size, 0, none⟩ = some (.int .i64 k) := zq133
 have lc1w2 : w2.cell? ⟨w1.heap.size, 1, none⟩ = some (.int .i64 c) := zq133
 have lfw2 : ∀ o, w2.frozen? ⟨w1.heap.size, o, none⟩ = false := fun o => (hk2.frozen zq522 zq522).trans zq524
 have lzw2 : w1.heap.size < w2.heap.size := zq61
 have lzw21 : w1.heap.size < w2.heap.size + 1 := by omega
 have lnw21 : ¬ w1.heap.size = w2.heap.size + 1 := by omega
 have lzw22 : w1.heap.size < w2.heap.size + 1 + 1 := by omega
 have lnw22 : ¬ w1.heap.size = w2.heap.size + 1 + 1 := by omega
 have lzw23 : w1.heap.size < w2.heap.size + 1 + 1 + 1 := by omega
 have lnw23 : ¬ w1.heap.size = w2.heap.size + 1 + 1 + 1 := by omega
 have lzw24 : w1.heap.size < w2.heap.size + 1 + 1 + 1 + 1 := by omega
 have lnw24 : ¬ w1.heap.size = w2.heap.size + 1 + 1 + 1 + 1 := by omega
 go_wp2_with fail
 refine bodyPost_ret (v := .agg #[.int .i64 k, .int .i64 c]) (by simp [results, results25, go_sem, *]) rfl ⟨rfl, ?_, ?_⟩
 . repeat (first | (with_reducible exact hx3) | (with_reducible refine XAt.alloc ?_ _) | (with_reducible refine XAt.drew ?_) | (with_reducible refine XAt.other _ _ _ ?_ (by omega) (by omega)))
 . exact zq304
def runG : Nat -> Nat -> XS -> Nat × XS
 | 0, r, X => (r, X)
 | n + 1, r, X => runG n (if (stepX X).1.1 = 0 then r + 1 else r) (stepX X).2
theorem run_inv : ∀ (n r : Nat) (X : XS), XInv X -> XInv (runG n r X).2
 | 0, _, _, h => h
 | n + 1, _, _, h => run_inv n _ _ (step_inv h)
theorem x_Run_no (mb : Nat) (n : Int) (h : n < 0 \/ 4096 < n) (w : World) :
 CS 68 #[.pointer (some ⟨mb, 0, none⟩), .int .i64 n] (.tuple #[.int .i64 0, .int .i64 2]) w := by
 rcases h with h | h
 . have q : decide (n < 0) = true := by simp [h]
   exact zq333
 . have q : decide (n < 0) = false := by simp; omega
   have q2 : decide (n > 4096) = true := by simp; omega
   have q3 : decide (4096 < n) = true := by simp; omega
   exact zq333
theorem x_Run (mb rb : Nat) (X : XS) (hI : XInv X) (n : Nat) (hn : n <= 4096) (w) (hw : Hid (XAt w mb rb X)) :
 CX 68 #[.pointer (some ⟨mb, 0, none⟩), .int .i64 n] (.tuple #[.int .i64 (runG n 0 X).1, .int .i64 0]) [mb, rb] mb rb ((runG n 0 X).2) w := by
 have q : decide ((n : Int) < 0) = false := by simp
 have q2 : decide ((n : Int) > 4096) = false := by simp; omega
 have q3 : decide (4096 < (n : Int)) = false := by simp; omega
 have q3' : decide (4096 < n) = false := by simp; omega
 obtain ⟨T, hT⟩ := zn1 (runG n 0 X)
 rw [<- hT]
 have HT := hide1 hT
 have HI := hide1 hI
 clear hT hI
 go_enter func68, ntmps68
 go_wp2_with fail
 go_loopw [6, 7] (fun c d wr => ∃ (r i : Nat) (Y : XS), i <= n /\ r <= i /\ c = .int .i64 r /\ d = .int .i64 i /\ Hid (XInv Y) /\ Hid (XAt wr mb rb Y) /\ Hid (Kept [mb, rb] w wr) /\ Hid (T = runG (n - i) r Y)) (fun _ d _ => n - (intOf d).toNat)
 case atStart => exact ⟨0, 0, X, by omega, by omega, rfl, rfl, HI, hw, hide1 (Kept.refl _ _), HT⟩
 case round =>
  obtain ⟨r, i, Y, hi, hr, rfl, rfl, hY, hb, hk, hg⟩ := hrel
  clear HT HI hw
  by_cases hlt : i < n
  . have hlt' : decide ((i : Int) < (n : Int)) = true := by simp; omega
    have hg2 : Hid (T = runG (n - (i + 1)) (if (stepX Y).1.1 = 0 then r + 1 else r) (stepX Y).2) := by
     show T = _
     rw [hg.out, show n - i = (n - (i + 1)) + 1 by omega]; rfl
    clear hg
    have ST := hide1 (x_Step mb rb Y hY.out wr hb)
    have hZ := hide1 (step_inv hY.out)
    obtain ⟨⟨⟨k, c⟩, Z⟩, hR⟩ : ∃ R, R = stepX Y := ⟨_, rfl⟩
    simp only [<- hR] at ST hZ hg2
    try dsimp only at ST hZ hg2
    have hml := hb.out.lt
    have hrl := hb.out.rlt
    unfold didV at ST
    clear hR hY hb
    by_cases h0 : k = 0
    . have hg3 : Hid (T = runG (n - (i + 1)) (r + 1) Z) := by show T = _; rw [hg2.out, if_pos h0]
      have q0 : (k == 0) = true := by simp [h0]
      clear hg2 h0
      go_wp2_with fail
      refine ST.out.mono ?_
      rintro o w1 ⟨rfl, hx1, hk1⟩
      clear ST
      have hx2 := hide1 (hx1.alloc (.cells #[.int .i64 k, .int .i64 c] 46))
      have hk2 := hide1 ((hk.out.trans hk1).alloc (.cells #[.int .i64 k, .int .i64 c] 46))
      go_wp2_with fail
      go_roundw
      case rel =>
       first
        | exact ⟨r + 1, i + 1, Z, by omega, by omega, by go_num, by go_num, hZ, hx2, hk2, hg3⟩
        | ((repeat apply Exists.intro); exact ⟨⟨r + 1, i + 1, Z, by omega, by omega, by go_num, by go_num, hZ, hx2, hk2, hg3⟩, rfl⟩)
      case measure => exact zq188
    . have hg3 : Hid (T = runG (n - (i + 1)) r Z) := by show T = _; rw [hg2.out, if_neg h0]
      have q0 : (k == 0) = false := by simp [h0]
      clear hg2 h0
      go_wp2_with fail
      refine ST.out.mono ?_
      rintro o w1 ⟨rfl, hx1, hk1⟩
      clear ST
      have hx2 := hide1 (hx1.alloc (.cells #[.int .i64 k, .int .i64 c] 46))
      have hk2 := hide1 ((hk.out.trans hk1).alloc (.cells #[.int .i64 k, .int .i64 c] 46))
      go_wp2_with fail
      go_roundw
      case rel =>
       first
        | exact ⟨r, i + 1, Z, by omega, by omega, rfl, by go_num, hZ, hx2, hk2, hg3⟩
        | ((repeat apply Exists.intro); exact ⟨⟨r, i + 1, Z, by omega, by omega, rfl, by go_num, hZ, hx2, hk2, hg3⟩, rfl⟩)
      case measure => exact zq188
  . have hlt' : decide ((i : Int) < (n : Int)) = false := by simp; omega
    have hTT : Hid (T = (r, Y)) := by show T = _; rw [hg.out, show n - i = 0 by omega]; rfl
    clear hg
    go_wp2_with fail
    go_ret2
    exact ⟨by rw [hTT.out] <;> rfl, by rw [hTT.out]; exact hb.out, hk.out⟩
end
def csr0 : XCsr := ⟨0, 0, 0, 0, 0, 0, 0, 0, 0, 0, 0, 0, 0, 0, 0, 0, 0, 0, 0, 0, 0, 0, 0⟩
def hart0 (X : XS) : XS := { X with x := List.replicate 32 0, pc := 2147483648, mode := 3, waits := false, resd := false, resv := 0 }
def rstX (X : XS) : XS := { b := busRe X.b, c := csr0, x := List.replicate 32 0, pc := 2147483648, mode := 3, waits := false, resd := false, resv := 0 }
theorem info67 : (prog.info? 67).map (·.size) = some 37 := by kernel_rfl
theorem info71' : (prog.info? 71).map (·.size) = some 23 := by kernel_rfl
theorem info73 : (prog.info? 73).map (·.size) = some 5 := by kernel_rfl
theorem info75 : (prog.info? 75).map (·.size) = some 5 := by kernel_rfl
def hart0L : List Value := [.int .i64 0, .int .i64 0, .int .i64 0, .int .i64 0, .int .i64 0, .int .i64 0, .int .i64 0, .int .i64 0, .int .i64 0, .int .i64 0, .int .i64 0, .int .i64 0, .int .i64 0, .int .i64 0, .int .i64 0, .int .i64 0, .int .i64 0, .int .i64 0, .int .i64 0, .int .i64 0, .int .i64 0, .int .i64 0, .int .i64 0, .int .i64 0, .int .i64 0, .int .i64 0, .int .i64 0, .int .i64 0, .int .i64 0, .int .i64 0, .int .i64 0, .int .i64 0, .int .i64 2147483648, .int .i64 3, .bool false, .bool false, .int .i64 0]
def csr0L : List Value := [.int .i64 0, .int .i64 0, .int .i64 0, .int .i64 0, .int .i64 0, .int .i64 0, .int .i64 0, .int .i64 0, .int .i64 0, .int .i64 0, .int .i64 0, .int .i64 0, .int .i64 0, .int .i64 0, .int .i64 0, .int .i64 0, .int .i64 0, .int .i64 0, .int .i64 0, .int .i64 0, .int .i64 0, .int .i64 0, .int .i64 0]
def timer0L : List Value := [.int .i64 0, .int .i64 0, .int .i64 0, .int .i64 4294967295, .int .i64 4294967295]
def port0L : List Value := [.int .i64 0, .int .i64 0, .bool false, .string ⟨#[]⟩, .string ⟨#[]⟩]
theorem x_Reset (mb rb X w) (hw : Hid (XAt w mb rb X)) :
 CX 36 #[.pointer (some ⟨mb, 0, none⟩)] (.tuple #[]) [mb] mb rb (rstX X) w := by
 have hx1 := hide1 (hw.out.setCs (X' := hart0 X) 1 hart0L rfl (by decide) rfl)
 have hx2 := hide1 (hx1.out.setCs (X' := { hart0 X with c := csr0 }) 38 csr0L rfl (by decide) rfl)
 have hx3 := hide1 (hx2.out.setCs (X' := { hart0 X with c := csr0, b := { X.b with msip := 0, time := 0, timeh := 0, cmp := 4294967295, cmph := 4294967295 } }) 61 timer0L rfl (by decide) rfl)
 have hx4 := hide1 (hx3.out.setCs (X' := rstX X) 66 port0L rfl (by decide) rfl)
 have hk4 : Hid (Kept [mb] w ((((w.setCells mb 1 hart0L).setCells mb 38 csr0L).setCells mb 61 timer0L).setCells mb 66 port0L)) := hide1 (Kept.setCs _ (.inl (by simp)) _ _ _ (Kept.setCs _ (.inl (by simp)) _ _ _ (Kept.setCs _ (.inl (by simp)) _ _ _ (Kept.setCs _ (.inl (by simp)) _ _ _ (Kept.refl _ _)))))
 have t1 := hide1 (hw.out.there' 1 37 (by decide))
 have t2 := hide1 (hx1.out.there' 38 23 (by decide))
 have t3 := hide1 (hx2.out.there' 61 5 (by decide))
 have t4 := hide1 (hx3.out.there' 66 5 (by decide))
 clear hw hx1 hx2 hx3
 go_enter func36, ntmps36
 go_upto_region 0 with fail
 refine wp_region_lit ?_
 refine wpList_plain rfl (fun K hK => ?_)
 go_simp
 refine hK _ _ ?_
 clear hK K
 refine wpList_plain rfl (fun K hK => ?_)
 go_simp
 refine hK _ _ ?_
 clear hK K
 refine wpList_plain rfl (fun K hK => ?_)
 go_simp
 refine hK _ _ ?_
 clear hK K
 refine wpList_plain rfl (fun K hK => ?_)
 go_simp
 refine hK _ _ ?_
 clear hK K
 refine wpList_store_mid rfl _ _ _ rfl mb 1 hart0L.toArray rfl rfl t1.out (by rw [info67]; rfl) zq525 ?_
 refine wpList_nil ?_
 go_upto_region 1 with fail
 refine wp_region_lit ?_
 refine wpList_plain rfl (fun K hK => ?_)
 go_simp
 refine hK _ _ ?_
 clear hK K
 refine wpList_plain rfl (fun K hK => ?_)
 go_simp
 refine hK _ _ ?_
 clear hK K
 refine wpList_plain rfl (fun K hK => ?_)
 go_simp
 refine hK _ _ ?_
 clear hK K
 refine wpList_plain rfl (fun K hK => ?_)
 go_simp
 refine hK _ _ ?_
 clear hK K
 refine wpList_store_mid rfl _ _ _ rfl mb 38 csr0L.toArray rfl rfl t2.out (by rw [info71']; rfl) zq525 ?_
 refine wpList_nil ?_
 go_upto_region 2 with fail
 refine wp_region_lit ?_
 refine wpList_plain rfl (fun K hK => ?_)
 go_simp
 refine hK _ _ ?_
 clear hK K
 refine wpList_plain rfl (fun K hK => ?_)
 go_simp
 refine hK _ _ ?_
 clear hK K
 refine wpList_plain rfl (fun K hK => ?_)
 go_simp
 refine hK _ _ ?_
 clear hK K
 refine wpList_plain rfl (fun K hK => ?_)
 go_simp
 refine hK _ _ ?_
 clear hK K
 refine wpList_plain rfl (fun K hK => ?_)
 go_simp
 refine hK _ _ ?_
 clear hK K
 refine wpList_store_mid rfl _ _ _ rfl mb 61 timer0L.toArray rfl rfl t3.out (by rw [info73]; rfl) zq525 ?_
 refine wpList_nil ?_
 go_upto_region 3 with fail
 refine wp_region_lit ?_
 refine wpList_plain rfl (fun K hK => ?_)
 go_simp
 refine hK _ _ ?_
 clear hK K
 refine wpList_plain rfl (fun K hK => ?_)
 go_simp
 refine hK _ _ ?_
 clear hK K
 refine wpList_plain rfl (fun K hK => ?_)
 go_simp
 refine hK _ _ ?_
 clear hK K
 refine wpList_plain rfl (fun K hK => ?_)
 go_simp
 refine hK _ _ ?_
 clear hK K
 refine wpList_store_mid rfl _ _ _ rfl mb 66 port0L.toArray rfl rfl t4.out (by rw [info75]; rfl) zq525 ?_
 refine wpList_nil ?_
 go_wp2_with fail
 go_end0
 exact ⟨rfl, hx4.out, hk4.out⟩
def bus00 (n : Nat) : BusS := { ram := List.replicate n 0, msip := 0, time := 0, timeh := 0, cmp := 0, cmph := 0, enable := 0, scratch := 0, lost := false, rx := ⟨#[]⟩, tx := ⟨#[]⟩ }
def mac00 (n : Nat) : XS := { b := bus00 n, c := csr0, x := List.replicate 32 0, pc := 0, mode := 0, waits := false, resd := false, resv := 0 }
def newX (n : Nat) : XS := rstX (mac00 n)
theorem x_New_no (n : Int) (h : n < 0 \/ 65536 < n) (w : World) :
 CS 23 #[.int .i64 n] (.tuple #[.pointer none, .int .i64 2]) w := by
 rcases h with h | h
 . have q : decide (n < 0) = true := by simp [h]
   exact zq334
 . have q : decide (n < 0) = false := by simp; omega
   have q2 : decide (n > 65536) = true := by simp; omega
   have q3 : decide (65536 < n) = true := by simp; omega
   exact zq334
def macC (rb n : Nat) : Obj := .cells #[.slice (some ⟨rb, 0, none⟩) n n, .int .i64 0, .int .i64 0, .int .i64 0, .int .i64 0, .int .i64 0, .int .i64 0, .int .i64 0, .int .i64 0, .int .i64 0, .int .i64 0, .int .i64 0, .int .i64 0, .int .i64 0, .int .i64 0, .int .i64 0, .int .i64 0, .int .i64 0, .int .i64 0, .int .i64 0, .int .i64 0, .int .i64 0, .int .i64 0, .int .i64 0, .int .i64 0, .int .i64 0, .int .i64 0, .int .i64 0, .int .i64 0, .int .i64 0, .int .i64 0, .int .i64 0, .int .i64 0, .int .i64 0, .int .i64 0, .bool false, .bool false, .int .i64 0, .int .i64 0, .int .i64 0, .int .i64 0, .int .i64 0, .int .i64 0, .int .i64 0, .int .i64 0, .int .i64 0, .int .i64 0, .int .i64 0, .int .i64 0, .int .i64 0, .int .i64 0, .int .i64 0, .int .i64 0, .int .i64 0, .int .i64 0, .int .i64 0, .int .i64 0, .int .i64 0, .int .i64 0, .int .i64 0, .int .i64 0, .int .i64 0, .int .i64 0, .int .i64 0, .int .i64 0, .int .i64 0, .int .i64 0, .int .i64 0, .bool false, .string ⟨#[]⟩, .string ⟨#[]⟩] 77
theorem macC_eq (rb n : Nat) : macC rb n = .cells (xL rb (mac00 n)).toArray 77 := by
 unfold macC xL mac00 bus00 csr0
 simp
theorem mac00_at (W : World) (n : Nat) : XAt ((W.alloc (.cells (madeCells #[.int .u8 0] n) 5)).alloc (macC W.heap.size n)) (W.heap.size + 1) W.heap.size (mac00 n) := by
 have hk : Below (W.alloc (.cells (madeCells #[.int .u8 0] n) 5)).heap.size (W.alloc (.cells (madeCells #[.int .u8 0] n) 5)) ((W.alloc (.cells (madeCells #[.int .u8 0] n) 5)).alloc (macC W.heap.size n)) := zq134
 have hr : ∀ j, j < n -> (W.alloc (.cells (madeCells #[.int .u8 0] n) 5)).cell? ⟨W.heap.size, j, none⟩ = some (.int .u8 0) := by
  intro j hj
  simp [madeCells, hj, Nat.mod_one]
 have hf : ∀ o, (W.alloc (.cells (madeCells #[.int .u8 0] n) 5)).frozen? ⟨W.heap.size, o, none⟩ = false := by intro o; simp
 refine ⟨fun k hk71 => ?_, fun o => ?_, ?_, fun j hj => ?_, fun o => ?_, ?_, ?_⟩
 . rw [macC_eq]; simp
 . rw [macC_eq]; simp
 . simp
 . have hj' : j < n := by simpa [mac00, bus00] using hj
   rw [hk.cell (p := ⟨W.heap.size, j, none⟩) (by simp), hr j hj']
   simp [mac00, bus00]
 . rw [hk.frozen (p := ⟨W.heap.size, o, none⟩) (by simp), hf o]
 . simp; omega
 . omega
theorem x_New (n : Nat) (hn : n <= 65536) (W : World) :
 Calls prog 23 #[.int .i64 n] W fun e w' => e = .returned (.tuple #[.pointer (some ⟨W.heap.size + 1, 0, none⟩), .int .i64 0]) /\ XAt w' (W.heap.size + 1) W.heap.size (newX n) /\ Kept [] W w' := by
 obtain ⟨i0, hi, hz0, hz1, hz2⟩ := info_parts Tryz.info5
 have e0 : decide ((n : Int) < 0) = false := by simp
 have e1 : decide (65536 < (n : Int)) = false := by simp; omega
 have e1' : decide ((n : Int) > 65536) = false := by simp; omega
 have e2 : decide (65536 < n) = false := by simp; omega
 have hmk : ∀ w, (Instr.makeSlice 64 (.int .i64 (n : Int)) (.int .i64 (n : Int))).run prog w = .ok (.slice (some ⟨w.heap.size, 0, none⟩) n n) (w.alloc (.cells (madeCells #[.int .u8 0] n) 5)) := by
  intro w
  have h := run_makeSlice (P := prog) w 64 5 i0 (.int .u8 0) Tryz.underlying64 hi hz0 .i64 .i64 n n (by omega) (Int.le_refl _) (by rw [hz1]; omega) (by rw [hz2]; omega) (by omega)
  rw [hz1] at h
  simpa [Value.cells] using h
 obtain ⟨o1, ho1⟩ := zn1 (Obj.cells (madeCells #[.int .u8 0] n) 5)
 have hb0 := mac00_at W n
 rw [<- ho1] at hb0 hmk
 have R := hide1 (x_Reset (W.heap.size + 1) W.heap.size _ _ (hide1 hb0))
 have HK : Hid (Kept [] W ((W.alloc o1).alloc (macC W.heap.size n))) := hide1 (((Kept.refl _ _).alloc _).alloc _)
 have HKB : Hid (∀ w', Kept [W.heap.size + 1] ((W.alloc o1).alloc (macC W.heap.size n)) w' -> Kept [] W w') := hide1 (fun w' hk => ⟨hk.os.trans HK.out.os, hk.tape.trans HK.out.tape, hk.output.trans HK.out.output, Nat.le_trans HK.out.size hk.size, fun k hkk _ => (hk.block k (Nat.lt_of_lt_of_le hkk HK.out.size) (by simp; omega)).trans (HK.out.block k hkk (by simp))⟩)
 unfold macC at R HKB
 unfold newX
 clear hb0 HK ho1
 go_enter func23, ntmps23
 go_wp2_with fail
 refine R.out.mono ?_
 rintro e w1 ⟨rfl, hb1, hk1⟩
 go_wp2_with fail
 go_ret2
 exact ⟨rfl, hb1, HKB.out _ hk1⟩
def bytV (l : List UInt8) : List Value := l.map fun c => .int .u8 (c.toNat : Int)
theorem XAt.laid {mb rb : Nat} : ∀ (l : List UInt8) (off : Nat) {X : XS} {w : World}, XAt w mb rb X -> off + l.length <= X.b.ram.length -> XAt (w.setCells rb off (bytV l)) mb rb (setRam X (laidB X.b.ram off l))
 | [], off, X, w, h, _ => h
 | c :: l, off, X, w, h, hl => by
  have h1 := h.setR off (by simp at hl; omega) c
  have h2 := XAt.laid l (off + 1) h1 (by simp at hl |-; omega)
  exact h2
theorem laid_all : ∀ (l r : List UInt8) (p : Nat), p + l.length = r.length -> laidB r p l = r.take p ++ l
 | [], r, p, h => by simp at h; simp [laidB, h]
 | c :: l, r, p, h => by
  simp at h
  have := laid_all l (r.set p c) (p + 1) (by simp; omega)
  simp only [laidB]
  rw [this, List.take_succ_eq_append_getElem (by simp; omega)]
  simp [List.take_set_of_le]
theorem info77 : (prog.info? 77).map (·.size) = some 71 := by kernel_rfl
theorem infoU8 : (prog.info? 5).map (·.size) = some 1 := by kernel_rfl
theorem alloc_there' (w : World) (a : Array Value) (T : Nat) : (w.alloc (.cells a T)).there w.heap.size 0 a.size := by
 intro j hj
 constructor
 . simp [hj]
 . simp
theorem box_at {w mb rb X} (h : XAt w mb rb X) (z : Array Value) (T : Nat) (hz : z.size = 71) : XAt ((w.alloc (.cells z T)).setCells w.heap.size 0 (xL rb X)) w.heap.size rb X := by
 have ht := alloc_there' w z T
 have hr := World.rangeAt_setCells_same (w.alloc (.cells z T)) w.heap.size 0 (xL rb X) (by rw [xL_len, <- hz]; exact ht)
 have hk : Kept [] w ((w.alloc (.cells z T)).setCells w.heap.size 0 (xL rb X)) := Kept.setCs _ (.inr (Nat.le_refl _)) _ _ _ ((Kept.refl _ _).alloc _)
 have hrl := h.rlt
 refine ⟨fun k hk71 => ?_, fun o => ?_, ?_, fun j hj => ?_, fun o => ?_, ?_, ?_⟩
 . have hl : k < (xL rb X).length := by rw [xL_len]; exact hk71
   have := hr k _ (List.getElem?_eq_getElem hl)
   rw [Nat.zero_add] at this
   rw [this, List.getElem?_eq_getElem hl]
 . rw [World.frozen?_setCells]; simp
 . rw [setCells_size]; simp
 . rw [hk.cell (p := ⟨rb, j, none⟩) hrl (by simp)]; exact h.ram j hj
 . rw [hk.frozen (p := ⟨rb, o, none⟩) hrl (by simp)]; exact h.rfro o
 . rw [setCells_size]; simp; omega
 . omega
theorem wpList_boxed {ops : Array Oper} {rest : List Oper} {op : Oper} {a : Act} {w : World} {Q : Exit -> Act -> World -> Prop} {mb rb : Nat} {X : XS} {z : Array Value} {T : Nat} (h : XAt w mb rb X) (hz : z.size = 71) (hgd : op.guard = none) (ty : TypeId) (x y : Operand) (ho : op.op = .store ty x y) (cs : List Value) (hcs : cs = xL rb X)
 (hx : a.eval x = .pointer (some ⟨w.heap.size, 0, none⟩)) (hy : a.eval y = .agg cs.toArray) (hi : (prog.info? ty).map (·.size) = some 71)
 (hn : ∀ w2, XAt w2 w.heap.size rb X -> Kept [] w w2 -> w2.heap.size = w.heap.size + 1 -> wpList prog ops Q rest (a.put op.dst undef) w2) : wpList prog ops Q (op :: rest) a (w.alloc (.cells z T)) := by
 subst hcs
 refine wpList_store_mid hgd ty x y ho w.heap.size 0 (xL rb X).toArray hx hy ?_ hi ?_ ?_
 . show World.there _ _ _ 71
   rw [<- hz]; exact alloc_there' w z T
 . simp [xL, Value.oneCell']
 . exact hn _ (box_at h z T hz) (Kept.setCs _ (.inr (Nat.le_refl _)) _ _ _ ((Kept.refl _ _).alloc _)) (by rw [setCells_size]; simp)
theorem ram_at {w mb rb X} (h : XAt w mb rb X) (n T : Nat) : XAt ((w.setCell ⟨mb, 0, none⟩ (.slice (some ⟨w.heap.size, 0, none⟩) n n)).alloc (.cells (madeCells #[.int .u8 0] n) T)) mb w.heap.size (setRam X (List.replicate n 0)) := by
 have hlt := h.lt
 have hne : ¬ mb = w.heap.size := by omega
 have hz : (w.setCell ⟨mb, 0, none⟩ (.slice (some ⟨w.heap.size, 0, none⟩) n n)).heap.size = w.heap.size := by simp [World.setCell]
 have hc0 : (w.setCell ⟨mb, 0, none⟩ (.slice (some ⟨w.heap.size, 0, none⟩) n n)).cell? ⟨mb, 0, none⟩ = some (.slice (some ⟨w.heap.size, 0, none⟩) n n) := World.cell?_setCell_same _ _ _ h.c0
 have hck : ∀ k, k + 1 < 71 -> (w.setCell ⟨mb, 0, none⟩ (.slice (some ⟨w.heap.size, 0, none⟩) n n)).cell? ⟨mb, k + 1, none⟩ = (xL rb X)[k + 1]? := fun k hk => by rw [World.cell?_setCell_other _ _ _ _ (by simp), h.cell (k + 1) hk]
 have hfr : ∀ o, (w.setCell ⟨mb, 0, none⟩ (.slice (some ⟨w.heap.size, 0, none⟩) n n)).frozen? ⟨mb, o, none⟩ = false := fun o => by rw [World.frozen?_setCell]; exact h.fro o
 generalize w.setCell ⟨mb, 0, none⟩ (.slice (some ⟨w.heap.size, 0, none⟩) n n) = V at hz hc0 hck hfr
 have hk : Kept [] V (V.alloc (.cells (madeCells #[.int .u8 0] n) T)) := (Kept.refl [] V).alloc _
 rw [<- hz]
 have hne' : ¬ mb = V.heap.size := by omega
 refine ⟨fun k hk71 => ?_, fun o => ?_, ?_, fun j hj => ?_, fun o => ?_, ?_, hne'⟩
 . rw [hk.cell (p := ⟨mb, k, none⟩) (by show mb < _; omega) (by simp)]
   cases k with
   | zero => rw [hc0]; simp [xL, setRam, hz]
   | succ k => rw [hck k hk71]; rfl
 . rw [hk.frozen (p := ⟨mb, o, none⟩) (by show mb < _; omega) (by simp)]; exact hfr o
 . simp; omega
 . have hj' : j < n := by simpa [setRam] using hj
   simp [madeCells, hj', Nat.mod_one, setRam]
 . simp
 . simp
theorem bytV_len (l : List UInt8) : (bytV l).length = l.length := by simp [bytV]
theorem x_Copy (mb rb : Nat) (X : XS) (hram : X.b.ram.length <= 65536) (w) (hw : Hid (XAt w mb rb X)) :
 Calls prog 31 #[.pointer (some ⟨mb, 0, none⟩)] w fun o w' => o = .returned (.pointer (some ⟨w.heap.size, 0, none⟩)) /\ XAt w' w.heap.size (w.heap.size + 1) X /\ Kept [] w w' := by
 have hlt := hw.out.lt
 have hrlt := hw.out.rlt
 have hlt' : ¬ mb = w.heap.size := by omega
 have HR := hide1 (hw.out.range)
 have hsz : (xL rb X).toArray.size = 71 := rfl
 obtain ⟨i0, hi, hz0, hz1, hz2⟩ := info_parts Tryz.info5
 obtain ⟨n, hn⟩ := zn1 (X.b.ram.length)
 rw [<- hn] at hram
 have hmk : ∀ w, (Instr.makeSlice 64 (.int .i64 (n : Int)) (.int .i64 (n : Int))).run prog w = .ok (.slice (some ⟨w.heap.size, 0, none⟩) n n) (w.alloc (.cells (madeCells #[.int .u8 0] n) 5)) := by
  intro w
  have h := run_makeSlice (P := prog) w 64 5 i0 (.int .u8 0) Tryz.underlying64 hi hz0 .i64 .i64 n n (by omega) (Int.le_refl _) (by rw [hz1]; omega) (by rw [hz2]; omega) (by omega)
  rw [hz1] at h
  simpa [Value.cells] using h
 clear hi hz0 hz1 hz2 i0
 go_enter func31, ntmps31
 go_upto_region 1 with fail
 refine wp_region_lit ?_
 refine wpList_plain rfl (fun K hK => ?_)
 go_simp
 refine hK _ _ ?_
 clear hK K
 refine wpList_plain rfl (fun K hK => ?_)
 go_simp
 refine hK _ _ ?_
 clear hK K
 obtain ⟨cs, hcs⟩ := zn1 (xL rb X)
 rw [<- hcs] at HR hsz
 have HCS := hide1 hcs
 clear hcs
 refine wpList_load_mid rfl _ _ rfl mb 0 (by rfl) cs _ HR.out Tryz.underlying77 rfl (by rw [info77, HCS.out]; rfl) ?_
 refine wpList_plain rfl (fun K hK => ?_)
 go_simp
 refine hK _ _ ?_
 clear hK K
 refine wpList_boxed hw.out (by rfl) rfl _ _ _ rfl cs HCS.out rfl rfl info77 (fun w2 hx2 hk2 hs2 => ?_)
 refine wpList_nil ?_
 clear HCS HR hsz
 have hx0 := hw.out.kept hk2
 have c0 := hx0.c0
 have d0 := hx2.c0
 rw [<- hn] at c0 d0
 have hf2 := hx2.fro
 have hl2 : w.heap.size < w2.heap.size := by omega
 have hl2' : ¬ w.heap.size = w2.heap.size := by omega
 have hl3 : mb < w2.heap.size := by omega
 have hl3' : ¬ mb = w2.heap.size := by omega
 have hx3 := ram_at hx2 n 5
 have hx0' : XAt ((w2.setCell ⟨w.heap.size, 0, none⟩ (.slice (some ⟨w2.heap.size, 0, none⟩) n n)).alloc (.cells (madeCells #[.int .u8 0] n) 5)) mb rb X := (XAt.more hx0 (G := [w.heap.size]) ((Kept.refl _ _).setCell (.inl (by simp)) _) (by simp; omega) (by simp; omega)).alloc _
 have hk3 : Kept [] w ((w2.setCell ⟨w.heap.size, 0, none⟩ (.slice (some ⟨w2.heap.size, 0, none⟩) n n)).alloc (.cells (madeCells #[.int .u8 0] n) 5)) := (hk2.setCell (.inr (Nat.le_refl _)) _).alloc _
 obtain ⟨w3, hw3⟩ := zn1 ((w2.setCell ⟨w.heap.size, 0, none⟩ (.slice (some ⟨w2.heap.size, 0, none⟩) n n)).alloc (.cells (madeCells #[.int .u8 0] n) 5))
 rw [<- hw3] at hx3 hx0' hk3
 have hlen : (setRam X (List.replicate n 0)).b.ram.length = n := by simp [setRam]
 have hcp : (Builtin.copy_ #[64, 64] 3 #[.slice (some ⟨w2.heap.size, 0, none⟩) n n, .slice (some ⟨rb, 0, none⟩) n n]).run prog w3.drew = .ok (.int .i64 n) (w3.drew.setCells w2.heap.size 0 (bytV X.b.ram)) := by
  have := run_copy_cells (P := prog) w3.drew 64 64 3 5 w2.heap.size 0 n n ⟨rb, 0, none⟩ n n (bytV X.b.ram) Tryz.underlying64 infoU8 (by rw [bytV_len, <- hn]; exact (Nat.min_self n).symm) ?_ ?_ ?_ ?_
  . rw [this, bytV_len, <- hn]; rfl
  . intro j v hv
    have hj := (List.getElem?_eq_some_iff.1 hv).1
    rw [bytV_len] at hj
    rw [Addr.add_mid, Nat.zero_add, hx0'.drew.ram j hj, <- hv]
    simp [bytV, hj]
  . intro j hj
    rw [bytV_len, <- hn] at hj
    rw [Nat.zero_add, hx3.drew.ram j (by rw [hlen]; exact hj)]; rfl
  . intro j _
    exact hx3.drew.rfro _
  . intro v hv
    simp [bytV] at hv
    obtain ⟨c, _, rfl⟩ := hv
    rfl
 have hfin : XAt (w3.drew.setCells w2.heap.size 0 (bytV X.b.ram)) w.heap.size w2.heap.size X := by
  have h1 := XAt.laid X.b.ram 0 hx3.drew (by rw [hlen, <- hn]; omega)
  rw [laid_all X.b.ram _ 0 (by rw [hlen, <- hn]; omega)] at h1
  exact h1
 have hkf : Kept [] w (w3.drew.setCells w2.heap.size 0 (bytV X.b.ram)) := Kept.setCs _ (.inr (by omega)) _ _ _ hk3.drew
 rw [hs2] at hfin
 have HF := hide1 hfin
 have HKF := hide1 hkf
 have e3 := hx0'.c0
 have f3 := hx3.c0
 rw [<- hn] at e3
 rw [hlen] at f3
 clear hx3 hx0' hk3 hlen hfin hkf
 have HX2 := hide1 hx2
 have HX0 := hide1 hx0
 clear hx2 hx0
 have HS2 := hide1 hs2
 have HN := hide1 hn
 have HK2 := hide1 hk2
 clear hs2 hn hk2
 go_upto_region 3 with fail
 rw [<- hw3]
 clear hw3
 go_region
 all_goals
  go_wp2_with fail
  go_ret
  exact ⟨rfl, by rw [HS2.out]; exact HF.out, HKF.out⟩
section
attribute [local go_sem ↓] Go.wp_at_zero Go.wp_at_succ
theorem run_copy_str (w : World) (dT sT ty elem : TypeId) (b o dLen dCap : Nat) (s : ByteArray) (hu : prog.underlying dT = some (.slice elem)) (hs : (prog.info? elem).map (·.size) = some 1) (hn : s.size <= dLen)
 (hc : ∀ j, j < s.size -> (w.cell? ⟨b, o + j, none⟩).isSome = true) (hf : ∀ j, j < s.size -> w.frozen? ⟨b, o + j, none⟩ = false) :
 (Builtin.copy_ #[dT, sT] ty #[.slice (some ⟨b, o, none⟩) dLen dCap, .string s]).run prog w = .ok (goInt s.size) (w.setCells b o (bytV s.data.toList)) := by
 have hl : (bytV s.data.toList).length = s.size := by rw [bytV_len]; simp
 have hst := run_storeCells_cells (P := prog) b o (bytV s.data.toList) 0 w (by rw [hl]; simpa using hc) (by rw [hl]; simpa using hf) (by
  intro v hv
  simp [bytV] at hv
  obtain ⟨c, _, rfl⟩ := hv
  rfl)
 have hm : min s.size dLen = s.size := by omega
 have he : s.extract 0 s.size = s := by simp
 cases hq : prog.info? elem with
 | none => simp [hq] at hs
 | some i =>
  have hi : i.size = 1 := by simpa [hq] using hs
  have e3 : List.take s.size (List.map (fun b => Value.int .u8 (b.toNat : Int)) s.data.toList) = bytV s.data.toList := by unfold bytV; exact List.take_of_length_le (by simp)
  simp [Builtin.copy_, run_underlying hu, Builtin.lenOf, Builtin.firstCells, _root_.Go.sizeOf, typeInfo, hq, hi, hm, he, e3]
  rw [hst]; rfl
theorem x_Load_long (mb : Nat) (off : Int) (s : ByteArray) (h : 65536 < s.size) (w : World) :
 CS 24 #[.pointer (some ⟨mb, 0, none⟩), .int .i64 off, .string s] (.int .i64 1) w := by
 have q : decide (65536 < (s.size : Int)) = true := by simp; omega
 exact zq335
theorem x_Load_arg (mb rb : Nat) (X : XS) (hr : X.b.ram.length <= 65536) (off : Int) (s : ByteArray) (hs : s.size <= 65536) (h : off < 0 \/ (X.b.ram.length : Int) - s.size < off) (w) (hw : Hid (XAt w mb rb X)) :
 CS 24 #[.pointer (some ⟨mb, 0, none⟩), .int .i64 off, .string s] (.int .i64 2) w := by
 have q : decide (65536 < (s.size : Int)) = false := by simp; omega
 have c0 := hw.out.c0
 have hwr := wrap_in ((X.b.ram.length : Int) - s.size) (by omega)
 by_cases h0 : off < 0
 . have q1 : decide (off < 0) = true := by simp [h0]
   exact zq336
 . have q1 : decide (off < 0) = false := by simp; omega
   have q2 : decide ((X.b.ram.length : Int) - s.size < off) = true := by simp; omega
   exact zq336
def loadX (X : XS) (off : Nat) (s : ByteArray) : XS := urwX (setRam X (laidB X.b.ram off s.data.toList)) off s.size
theorem x_Load (mb rb X) (hX : XOk X) (off : Nat) (s : ByteArray) (h : off + s.size <= X.b.ram.length) (w) (hw : Hid (XAt w mb rb X)) :
 CX 24 #[.pointer (some ⟨mb, 0, none⟩), .int .i64 off, .string s] (.int .i64 0) [mb, rb] mb rb (loadX X off s) w := by
 have hr := hX.b.ram
 have q : decide (65536 < (s.size : Int)) = false := by simp; omega
 have q1 : decide ((off : Int) < 0) = false := by simp
 have q2 : decide ((X.b.ram.length : Int) - s.size < (off : Int)) = false := by simp; omega
 have hwr := wrap_in ((X.b.ram.length : Int) - s.size) (by omega)
 have c0 := hw.out.c0
 have hsl : ∃ o2, (∀ w, (Instr.slice 64 (.slice (some ⟨rb, 0, none⟩) X.b.ram.length X.b.ram.length) (some (.int .i64 (off : Int))) none none).run prog w = .ok (.slice (some ⟨rb, o2, none⟩) (X.b.ram.length - off) (X.b.ram.length - off)) w) /\ (s.size = 0 \/ o2 = off) := by
  have hr : ∀ w, (Instr.slice 64 (.slice (some ⟨rb, 0, none⟩) X.b.ram.length X.b.ram.length) (some (.int .i64 (off : Int))) none none).run prog w = .ok (.slice (if X.b.ram.length = off then some ⟨rb, 0, none⟩ else some ⟨rb, off, none⟩) (X.b.ram.length - off) (X.b.ram.length - off)) w := by
   intro w
   have hu : prog.underlying 64 = some (.slice (prog.elem 64)) := by kernel_rfl
   have h := run_slice_l (P := prog) w 64 (some ⟨rb, 0, none⟩) X.b.ram.length X.b.ram.length hu .i64 (off : Int) (by omega) (by omega)
   rw [h]
   have hz : (_root_.Go.sizeOf (prog.elem 64)).run prog w = .ok 1 w := by kernel_rfl
   rw [hz]
   simp only [Result.andThen, sliced]
   rw [show (off : Int).toNat = off by omega, Nat.mul_one, Option.map_some, Addr.add_mid rb 0 off, Nat.zero_add]
  by_cases hc : X.b.ram.length = off
  . exact ⟨0, fun w => by rw [hr w, if_pos hc], .inl (by omega)⟩
  . exact ⟨off, fun w => by rw [hr w, if_neg hc], .inr rfl⟩
 obtain ⟨o2, hsl, ho2⟩ := hsl
 have hcp : (Builtin.copy_ #[64, 9] 3 #[.slice (some ⟨rb, o2, none⟩) (X.b.ram.length - off) (X.b.ram.length - off), .string s]).run prog w = .ok (.int .i64 s.size) (w.setCells rb off (bytV s.data.toList)) := by
  have := run_copy_str w 64 9 3 5 rb o2 (X.b.ram.length - off) (X.b.ram.length - off) s Tryz.underlying64 infoU8 (by omega) (fun j hj => by
   rw [hw.out.ram (o2 + j) (by omega)]; rfl) (fun j _ => hw.out.rfro _)
  rw [this]
  rcases ho2 with h0 | h0
  . have hz : bytV s.data.toList = [] := List.eq_nil_of_length_eq_zero (by rw [bytV_len]; simpa using h0)
    rw [hz]; rfl
  . rw [h0]; rfl
 have hx1 := hide1 (XAt.laid s.data.toList off hw.out (by simpa using h))
 have hk1 : Hid (Kept [mb, rb] w (w.setCells rb off (bytV s.data.toList))) := hide1 (Kept.setCs _ (.inl (by simp)) _ _ _ (Kept.refl _ _))
 have hX1 : XOk (setRam X (laidB X.b.ram off s.data.toList)) := { hX with b := setRam_ok hX.b (laidB_length _ _ _) }
 have UW := hide1 (x_unreserveWritten mb rb _ hX1 off s.size (by omega) (by omega) _ hx1)
 unfold loadX
 obtain ⟨w1, hw1⟩ := zn1 (w.setCells rb off (bytV s.data.toList))
 rw [<- hw1] at hcp hk1 UW
 clear hX hX1 hw1 hx1 hw ho2 h
 go_enter func24, ntmps24
 go_wp2_with fail
 refine UW.out.mono ?_
 rintro o w2 ⟨rfl, hx2, hk2⟩
 go_wp2_with fail
 go_ret
 exact ⟨rfl, hx2, hk1.out.trans (hk2.mono (by simp))⟩
end
def portS (B : BusS) : ByteArray := ((((((leA B.enable 1 ++ leA B.scratch 1) ++ (if B.lost = true then ⟨#[33]⟩ else ⟨#[46]⟩)) ++ leA B.rx.size 1) ++ B.rx) ++ leA B.tx.size 1) ++ B.tx)
theorem x_portShow (B : BusS) (hr : B.rx.size <= 4) (ht : B.tx.size <= 8) (w : World) :
 CK 119 #[prtA B] (.string (portS B)) w := by
 unfold prtA portS
 obtain ⟨en, sc, lo, rx, tx, h5⟩ : ∃ a b c d e, a = B.enable /\ b = B.scratch /\ c = B.lost /\ d = B.rx /\ e = B.tx := ⟨_, _, _, _, _, rfl, rfl, rfl, rfl, rfl⟩
 obtain ⟨e1, e2, e3, e4, e5⟩ := h5
 simp only [<- e1, <- e2, <- e3, <- e4, <- e5] at *
 clear e1 e2 e3 e4 e5
 have L1 := fun W => hide1 (l_Le (en : Int) 1 (by decide) W)
 have L2 := fun W => hide1 (l_Le (sc : Int) 1 (by decide) W)
 have L3 := fun W => hide1 (x_eith lo ⟨#[33]⟩ ⟨#[46]⟩ W)
 have L4 := fun W => hide1 (l_Le (rx.size : Int) 1 (by decide) W)
 have L5 := fun W => hide1 (l_Le (tx.size : Int) 1 (by decide) W)
 have zo : (if lo = true then (⟨#[33]⟩ : ByteArray) else ⟨#[46]⟩).size = 1 := by cases lo <;> rfl
 have y1 := leA_size (en : Int) 1
 have y2 := leA_size (sc : Int) 1
 have y4 := leA_size (rx.size : Int) 1
 have y5 := leA_size (tx.size : Int) 1
 obtain ⟨u1, h1⟩ := zn1 (leA en 1)
 obtain ⟨u2, h2⟩ := zn1 (leA sc 1)
 obtain ⟨u3, h3⟩ := zn1 ((if lo = true then (⟨#[33]⟩ : ByteArray) else ⟨#[46]⟩))
 obtain ⟨u4, h4⟩ := zn1 (leA rx.size 1)
 obtain ⟨u5, h5⟩ := zn1 (leA tx.size 1)
 simp only [<- h1, <- h2, <- h3, <- h4, <- h5] at L1 L2 L3 L4 L5 zo y1 y2 y4 y5 |-
 obtain ⟨s1, g1, z1, a1⟩ := add_in u1 u2 (by omega)
 obtain ⟨s2, g2, z2, a2⟩ := add_in s1 u3 (by omega)
 obtain ⟨s3, g3, z3, a3⟩ := add_in s2 u4 (by omega)
 obtain ⟨s4, g4, z4, a4⟩ := add_in s3 rx (by omega)
 obtain ⟨s5, g5, z5, a5⟩ := add_in s4 u5 (by omega)
 obtain ⟨s6, g6, z6, a6⟩ := add_in s5 tx (by omega)
 rw [<- g1, <- g2, <- g3, <- g4, <- g5, <- g6]
 clear h1 h2 h3 h4 h5 g1 g2 g3 g4 g5 g6 z1 z2 z3 z4 z5 z6 zo y1 y2 y4 y5
 have bx0 : BoxAt (w.alloc (.cells #[.int .i64 en, .int .i64 sc, .bool lo, .string rx, .string tx] 75)).drew w.heap.size [.int .i64 en, .int .i64 sc, .bool lo, .string rx, .string tx] := (BoxAt.new w [.int .i64 en, .int .i64 sc, .bool lo, .string rx, .string tx] _).drew
 have hk0 : Kept [] w (w.alloc (.cells #[.int .i64 en, .int .i64 sc, .bool lo, .string rx, .string tx] 75)).drew := ((Kept.refl _ _).alloc _).drew
 go_enter func119, ntmps119
 go_upto_region 1 with fail
 go_region_held3 (fun w' => w'.cell? ⟨w.heap.size, 0, none⟩ = some (.int .i64 en) /\ w'.cell? ⟨w.heap.size, 1, none⟩ = some (.int .i64 sc) /\ w'.cell? ⟨w.heap.size, 2, none⟩ = some (.bool lo)) (first | go_keep | exact ⟨bx1.cell 0 _ rfl, bx1.cell 1 _ rfl, bx1.cell 2 _ rfl⟩ | exact ⟨bx2.cell 0 _ rfl, bx2.cell 1 _ rfl, bx2.cell 2 _ rfl⟩) (first | (go_at_call_of 177 (Value.int IntKind.i64 (en : Int)); refine (L1 _).out.mono ?_; rintro e w1 ⟨rfl, hk1⟩; have bx1 := bx0.more hk1) | (go_at_call_of 177 (Value.int IntKind.i64 (sc : Int)); refine (L2 _).out.mono ?_; rintro e w2 ⟨rfl, hk2⟩; have bx2 := bx1.more hk2) | (go_at_call 178; refine (L3 _).out.mono ?_; rintro e w3 ⟨rfl, rfl⟩))
 all_goals
  have bx3 := bx2.drew
  have d3 := bx2.cell 3 _ rfl
  have hk3 := ((hk0.trans hk1).trans hk2).drew
  clear bx0 bx1 hk0 hk1 hk2
  go_upto_region 2 with fail
  go_region_held3 (fun w' => w'.cell? ⟨w.heap.size, 3, none⟩ = some (.string rx)) (first | go_keep | exact bx4.cell 3 _ rfl) (first | (go_at_call 177; refine (L4 _).out.mono ?_; rintro e w4 ⟨rfl, hk4⟩; have bx4 := bx3.more hk4))
  all_goals
   have bx5 := bx4.drew
   have d4 := bx4.cell 4 _ rfl
   have hk5 := (hk3.trans hk4).drew
   clear bx3 hk3 hk4
   go_upto_region 3 with fail
   go_region_held3 (fun w' => w'.cell? ⟨w.heap.size, 4, none⟩ = some (.string tx)) (first | go_keep | exact bx6.cell 4 _ rfl) (first | (go_at_call 177; refine (L5 _).out.mono ?_; rintro e w6 ⟨rfl, hk6⟩; have bx6 := bx5.more hk6))
   all_goals
    go_wp2_with fail
    go_ret
    exact ⟨rfl, hk5.trans hk6⟩
def csrS (X : XS) : ByteArray := (((((((((((((((((((leA X.c.mstatus 4 ++ leA X.c.medeleg 4) ++ leA X.c.mideleg 4) ++ leA X.c.mie 4) ++ leA X.c.mip 4) ++ leA X.c.mtvec 4) ++ leA X.c.mcen 4) ++ leA X.c.minh 4) ++ leA X.c.mscratch 4) ++ leA X.c.mepc 4) ++ leA X.c.mcause 4) ++ leA X.c.mtval 4) ++ leA X.c.stvec 4) ++ leA X.c.scen 4) ++ leA X.c.sscratch 4) ++ leA X.c.sepc 4) ++ leA X.c.scause 4) ++ leA X.c.stval 4) ++ leA X.c.satp 4) ++ wideS X.c.cyc X.c.cych) ++ wideS X.c.ret X.c.reth
theorem x_csrShow' (v0 v1 v2 v3 v4 v5 v6 v7 v8 v9 v10 v11 v12 v13 v14 v15 v16 v17 v18 v19 v20 v21 v22 : Nat) (w : World) :
 CK 117 #[.agg #[.int .i64 v0, .int .i64 v1, .int .i64 v2, .int .i64 v3, .int .i64 v4, .int .i64 v5, .int .i64 v6, .int .i64 v7, .int .i64 v8, .int .i64 v9, .int .i64 v10, .int .i64 v11, .int .i64 v12, .int .i64 v13, .int .i64 v14, .int .i64 v15, .int .i64 v16, .int .i64 v17, .int .i64 v18, .int .i64 v19, .int .i64 v20, .int .i64 v21, .int .i64 v22]] (.string ((((((((((((((((((((leA v0 4 ++ leA v1 4) ++ leA v2 4) ++ leA v3 4) ++ leA v4 4) ++ leA v5 4) ++ leA v6 4) ++ leA v7 4) ++ leA v8 4) ++ leA v9 4) ++ leA v10 4) ++ leA v11 4) ++ leA v12 4) ++ leA v13 4) ++ leA v14 4) ++ leA v15 4) ++ leA v16 4) ++ leA v17 4) ++ leA v18 4) ++ wideS v19 v20) ++ wideS v21 v22)) w := by
 have L0 := fun W => hide1 (l_Le (v0 : Int) 4 (by decide) W)
 have y0 := leA_size (v0 : Int) 4
 have L1 := fun W => hide1 (l_Le (v1 : Int) 4 (by decide) W)
 have y1 := leA_size (v1 : Int) 4
 have L2 := fun W => hide1 (l_Le (v2 : Int) 4 (by decide) W)
 have y2 := leA_size (v2 : Int) 4
 have L3 := fun W => hide1 (l_Le (v3 : Int) 4 (by decide) W)
 have y3 := leA_size (v3 : Int) 4
 have L4 := fun W => hide1 (l_Le (v4 : Int) 4 (by decide) W)
 have y4 := leA_size (v4 : Int) 4
 have L5 := fun W => hide1 (l_Le (v5 : Int) 4 (by decide) W)
 have y5 := leA_size (v5 : Int) 4
 have L6 := fun W => hide1 (l_Le (v6 : Int) 4 (by decide) W)
 have y6 := leA_size (v6 : Int) 4
 have L7 := fun W => hide1 (l_Le (v7 : Int) 4 (by decide) W)
 have y7 := leA_size (v7 : Int) 4
 have L8 := fun W => hide1 (l_Le (v8 : Int) 4 (by decide) W)
 have y8 := leA_size (v8 : Int) 4
 have L9 := fun W => hide1 (l_Le (v9 : Int) 4 (by decide) W)
 have y9 := leA_size (v9 : Int) 4
 have L10 := fun W => hide1 (l_Le (v10 : Int) 4 (by decide) W)
 have y10 := leA_size (v10 : Int) 4
 have L11 := fun W => hide1 (l_Le (v11 : Int) 4 (by decide) W)
 have y11 := leA_size (v11 : Int) 4
 have L12 := fun W => hide1 (l_Le (v12 : Int) 4 (by decide) W)
 have y12 := leA_size (v12 : Int) 4
 have L13 := fun W => hide1 (l_Le (v13 : Int) 4 (by decide) W)
 have y13 := leA_size (v13 : Int) 4
 have L14 := fun W => hide1 (l_Le (v14 : Int) 4 (by decide) W)
 have y14 := leA_size (v14 : Int) 4
 have L15 := fun W => hide1 (l_Le (v15 : Int) 4 (by decide) W)
 have y15 := leA_size (v15 : Int) 4
 have L16 := fun W => hide1 (l_Le (v16 : Int) 4 (by decide) W)
 have y16 := leA_size (v16 : Int) 4
 have L17 := fun W => hide1 (l_Le (v17 : Int) 4 (by decide) W)
 have y17 := leA_size (v17 : Int) 4
 have L18 := fun W => hide1 (l_Le (v18 : Int) 4 (by decide) W)
 have y18 := leA_size (v18 : Int) 4
 have L19 := fun W => hide1 (x_wideShow v19 v20 W)
 have y19 := wideS_size v19 v20
 have L20 := fun W => hide1 (x_wideShow v21 v22 W)
 have y20 := wideS_size v21 v22
 obtain ⟨u0, h0⟩ := zn1 (leA v0 4)
 simp only [<- h0] at L0 y0 |-
 obtain ⟨u1, h1⟩ := zn1 (leA v1 4)
 simp only [<- h1] at L1 y1 |-
 obtain ⟨u2, h2⟩ := zn1 (leA v2 4)
 simp only [<- h2] at L2 y2 |-
 obtain ⟨u3, h3⟩ := zn1 (leA v3 4)
 simp only [<- h3] at L3 y3 |-
 obtain ⟨u4, h4⟩ := zn1 (leA v4 4)
 simp only [<- h4] at L4 y4 |-
 obtain ⟨u5, h5⟩ := zn1 (leA v5 4)
 simp only [<- h5] at L5 y5 |-
 obtain ⟨u6, h6⟩ := zn1 (leA v6 4)
 simp only [<- h6] at L6 y6 |-
 obtain ⟨u7, h7⟩ := zn1 (leA v7 4)
 simp only [<- h7] at L7 y7 |-
 obtain ⟨u8, h8⟩ := zn1 (leA v8 4)
 simp only [<- h8] at L8 y8 |-
 obtain ⟨u9, h9⟩ := zn1 (leA v9 4)
 simp only [<- h9] at L9 y9 |-
 obtain ⟨u10, h10⟩ := zn1 (leA v10 4)
 simp only [<- h10] at L10 y10 |-
 obtain ⟨u11, h11⟩ := zn1 (leA v11 4)
 simp only [<- h11] at L11 y11 |-
 obtain ⟨u12, h12⟩ := zn1 (leA v12 4)
 simp only [<- h12] at L12 y12 |-
 obtain ⟨u13, h13⟩ := zn1 (leA v13 4)
 simp only [<- h13] at L13 y13 |-
 obtain ⟨u14, h14⟩ := zn1 (leA v14 4)
 simp only [<- h14] at L14 y14 |-
 obtain ⟨u15, h15⟩ := zn1 (leA v15 4)
 simp only [<- h15] at L15 y15 |-
 obtain ⟨u16, h16⟩ := zn1 (leA v16 4)
 simp only [<- h16] at L16 y16 |-
 obtain ⟨u17, h17⟩ := zn1 (leA v17 4)
 simp only [<- h17] at L17 y17 |-
 obtain ⟨u18, h18⟩ := zn1 (leA v18 4)
 simp only [<- h18] at L18 y18 |-
 obtain ⟨u19, h19⟩ := zn1 (wideS v19 v20)
 simp only [<- h19] at L19 y19 |-
 obtain ⟨u20, h20⟩ := zn1 (wideS v21 v22)
 simp only [<- h20] at L20 y20 |-
 obtain ⟨s1, g1, z1, a1⟩ := add_in u0 u1 (by omega)
 obtain ⟨s2, g2, z2, a2⟩ := add_in s1 u2 (by omega)
 obtain ⟨s3, g3, z3, a3⟩ := add_in s2 u3 (by omega)
 obtain ⟨s4, g4, z4, a4⟩ := add_in s3 u4 (by omega)
 obtain ⟨s5, g5, z5, a5⟩ := add_in s4 u5 (by omega)
 obtain ⟨s6, g6, z6, a6⟩ := add_in s5 u6 (by omega)
 obtain ⟨s7, g7, z7, a7⟩ := add_in s6 u7 (by omega)
 obtain ⟨s8, g8, z8, a8⟩ := add_in s7 u8 (by omega)
 obtain ⟨s9, g9, z9, a9⟩ := add_in s8 u9 (by omega)
 obtain ⟨s10, g10, z10, a10⟩ := add_in s9 u10 (by omega)
 obtain ⟨s11, g11, z11, a11⟩ := add_in s10 u11 (by omega)
 obtain ⟨s12, g12, z12, a12⟩ := add_in s11 u12 (by omega)
 obtain ⟨s13, g13, z13, a13⟩ := add_in s12 u13 (by omega)
 obtain ⟨s14, g14, z14, a14⟩ := add_in s13 u14 (by omega)
 obtain ⟨s15, g15, z15, a15⟩ := add_in s14 u15 (by omega)
 obtain ⟨s16, g16, z16, a16⟩ := add_in s15 u16 (by omega)
 obtain ⟨s17, g17, z17, a17⟩ := add_in s16 u17 (by omega)
 obtain ⟨s18, g18, z18, a18⟩ := add_in s17 u18 (by omega)
 obtain ⟨s19, g19, z19, a19⟩ := add_in s18 u19 (by omega)
 obtain ⟨s20, g20, z20, a20⟩ := add_in s19 u20 (by omega)
 rw [<- g1]
 rw [<- g2]
 rw [<- g3]
 rw [<- g4]
 rw [<- g5]
 rw [<- g6]
 rw [<- g7]
 rw [<- g8]
 rw [<- g9]
 rw [<- g10]
 rw [<- g11]
 rw [<- g12]
 rw [<- g13]
 rw [<- g14]
 rw [<- g15]
 rw [<- g16]
 rw [<- g17]
 rw [<- g18]
 rw [<- g19]
 rw [<- g20]
 clear h0 h1 h2 h3 h4 h5 h6 h7 h8 h9 h10 h11 h12 h13 h14 h15 h16 h17 h18 h19 h20 g1 z1 g2 z2 g3 z3 g4 z4 g5 z5 g6 z6 g7 z7 g8 z8 g9 z9 g10 z10 g11 z11 g12 z12 g13 z13 g14 z14 g15 z15 g16 z16 g17 z17 g18 z18 g19 z19 g20 z20 y0 y1 y2 y3 y4 y5 y6 y7 y8 y9 y10 y11 y12 y13 y14 y15 y16 y17 y18 y19 y20
 have bx0 : BoxAt (w.alloc (.cells #[.int .i64 v0, .int .i64 v1, .int .i64 v2, .int .i64 v3, .int .i64 v4, .int .i64 v5, .int .i64 v6, .int .i64 v7, .int .i64 v8, .int .i64 v9, .int .i64 v10, .int .i64 v11, .int .i64 v12, .int .i64 v13, .int .i64 v14, .int .i64 v15, .int .i64 v16, .int .i64 v17, .int .i64 v18, .int .i64 v19, .int .i64 v20, .int .i64 v21, .int .i64 v22] 71)).drew w.heap.size [.int .i64 v0, .int .i64 v1, .int .i64 v2, .int .i64 v3, .int .i64 v4, .int .i64 v5, .int .i64 v6, .int .i64 v7, .int .i64 v8, .int .i64 v9, .int .i64 v10, .int .i64 v11, .int .i64 v12, .int .i64 v13, .int .i64 v14, .int .i64 v15, .int .i64 v16, .int .i64 v17, .int .i64 v18, .int .i64 v19, .int .i64 v20, .int .i64 v21, .int .i64 v22] := (BoxAt.new w [.int .i64 v0, .int .i64 v1, .int .i64 v2, .int .i64 v3, .int .i64 v4, .int .i64 v5, .int .i64 v6, .int .i64 v7, .int .i64 v8, .int .i64 v9, .int .i64 v10, .int .i64 v11, .int .i64 v12, .int .i64 v13, .int .i64 v14, .int .i64 v15, .int .i64 v16, .int .i64 v17, .int .i64 v18, .int .i64 v19, .int .i64 v20, .int .i64 v21, .int .i64 v22] _).drew
 have hk0 : Kept [] w (w.alloc (.cells #[.int .i64 v0, .int .i64 v1, .int .i64 v2, .int .i64 v3, .int .i64 v4, .int .i64 v5, .int .i64 v6, .int .i64 v7, .int .i64 v8, .int .i64 v9, .int .i64 v10, .int .i64 v11, .int .i64 v12, .int .i64 v13, .int .i64 v14, .int .i64 v15, .int .i64 v16, .int .i64 v17, .int .i64 v18, .int .i64 v19, .int .i64 v20, .int .i64 v21, .int .i64 v22] 71)).drew := ((Kept.refl _ _).alloc _).drew
 go_enter func117, ntmps117
 go_upto_region 1 with fail
 go_region_held3 (fun w' => w'.cell? ⟨w.heap.size, 0, none⟩ = some (.int .i64 v0) /\ w'.cell? ⟨w.heap.size, 1, none⟩ = some (.int .i64 v1) /\ w'.cell? ⟨w.heap.size, 2, none⟩ = some (.int .i64 v2) /\ w'.cell? ⟨w.heap.size, 3, none⟩ = some (.int .i64 v3) /\ w'.cell? ⟨w.heap.size, 4, none⟩ = some (.int .i64 v4)) (first | go_keep | exact ⟨bx1.cell 0 _ rfl, bx1.cell 1 _ rfl, bx1.cell 2 _ rfl, bx1.cell 3 _ rfl, bx1.cell 4 _ rfl⟩ | exact ⟨bx2.cell 0 _ rfl, bx2.cell 1 _ rfl, bx2.cell 2 _ rfl, bx2.cell 3 _ rfl, bx2.cell 4 _ rfl⟩ | exact ⟨bx3.cell 0 _ rfl, bx3.cell 1 _ rfl, bx3.cell 2 _ rfl, bx3.cell 3 _ rfl, bx3.cell 4 _ rfl⟩ | exact ⟨bx4.cell 0 _ rfl, bx4.cell 1 _ rfl, bx4.cell 2 _ rfl, bx4.cell 3 _ rfl, bx4.cell 4 _ rfl⟩ | exact ⟨bx5.cell 0 _ rfl, bx5.cell 1 _ rfl, bx5.cell 2 _ rfl, bx5.cell 3 _ rfl, bx5.cell 4 _ rfl⟩) (first | (go_at_call_of 177 (Value.int IntKind.i64 (v0 : Int)); refine (L0 _).out.mono ?_; rintro e w1 ⟨rfl, kk1⟩; have bx1 := bx0.more kk1) | (go_at_call_of 177 (Value.int IntKind.i64 (v1 : Int)); refine (L1 _).out.mono ?_; rintro e w2 ⟨rfl, kk2⟩; have bx2 := bx1.more kk2) | (go_at_call_of 177 (Value.int IntKind.i64 (v2 : Int)); refine (L2 _).out.mono ?_; rintro e w3 ⟨rfl, kk3⟩; have bx3 := bx2.more kk3) | (go_at_call_of 177 (Value.int IntKind.i64 (v3 : Int)); refine (L3 _).out.mono ?_; rintro e w4 ⟨rfl, kk4⟩; have bx4 := bx3.more kk4) | (go_at_call_of 177 (Value.int IntKind.i64 (v4 : Int)); refine (L4 _).out.mono ?_; rintro e w5 ⟨rfl, kk5⟩; have bx5 := bx4.more kk5))
 all_goals
  have by1 := bx5.drew
  have hk1 := (((((hk0.trans kk1).trans kk2).trans kk3).trans kk4).trans kk5).drew
  have d1_5 := bx5.cell 5 _ rfl
  have d1_6 := bx5.cell 6 _ rfl
  have d1_7 := bx5.cell 7 _ rfl
  clear bx0 hk0 bx1 bx2 bx3 bx4 bx5 kk1 kk2 kk3 kk4 kk5
  go_upto_region 2 with fail
  go_region_held3 (fun w' => w'.cell? ⟨w.heap.size, 5, none⟩ = some (.int .i64 v5) /\ w'.cell? ⟨w.heap.size, 6, none⟩ = some (.int .i64 v6) /\ w'.cell? ⟨w.heap.size, 7, none⟩ = some (.int .i64 v7)) (first | go_keep | exact ⟨bx6.cell 5 _ rfl, bx6.cell 6 _ rfl, bx6.cell 7 _ rfl⟩ | exact ⟨bx7.cell 5 _ rfl, bx7.cell 6 _ rfl, bx7.cell 7 _ rfl⟩ | exact ⟨bx8.cell 5 _ rfl, bx8.cell 6 _ rfl, bx8.cell 7 _ rfl⟩) (first | (go_at_call_of 177 (Value.int IntKind.i64 (v5 : Int)); refine (L5 _).out.mono ?_; rintro e w6 ⟨rfl, kk6⟩; have bx6 := by1.more kk6) | (go_at_call_of 177 (Value.int IntKind.i64 (v6 : Int)); refine (L6 _).out.mono ?_; rintro e w7 ⟨rfl, kk7⟩; have bx7 := bx6.more kk7) | (go_at_call_of 177 (Value.int IntKind.i64 (v7 : Int)); refine (L7 _).out.mono ?_; rintro e w8 ⟨rfl, kk8⟩; have bx8 := bx7.more kk8))
  all_goals
   have by2 := bx8.drew
   have hk2 := (((hk1.trans kk6).trans kk7).trans kk8).drew
   have d2_8 := bx8.cell 8 _ rfl
   have d2_9 := bx8.cell 9 _ rfl
   have d2_10 := bx8.cell 10 _ rfl
   have d2_11 := bx8.cell 11 _ rfl
   clear by1 hk1 bx6 bx7 bx8 kk6 kk7 kk8
   go_upto_region 3 with fail
   go_region_held3 (fun w' => w'.cell? ⟨w.heap.size, 8, none⟩ = some (.int .i64 v8) /\ w'.cell? ⟨w.heap.size, 9, none⟩ = some (.int .i64 v9) /\ w'.cell? ⟨w.heap.size, 10, none⟩ = some (.int .i64 v10) /\ w'.cell? ⟨w.heap.size, 11, none⟩ = some (.int .i64 v11)) (first | go_keep | exact ⟨bx9.cell 8 _ rfl, bx9.cell 9 _ rfl, bx9.cell 10 _ rfl, bx9.cell 11 _ rfl⟩ | exact ⟨bx10.cell 8 _ rfl, bx10.cell 9 _ rfl, bx10.cell 10 _ rfl, bx10.cell 11 _ rfl⟩ | exact ⟨bx11.cell 8 _ rfl, bx11.cell 9 _ rfl, bx11.cell 10 _ rfl, bx11.cell 11 _ rfl⟩ | exact ⟨bx12.cell 8 _ rfl, bx12.cell 9 _ rfl, bx12.cell 10 _ rfl, bx12.cell 11 _ rfl⟩) (first | (go_at_call_of 177 (Value.int IntKind.i64 (v8 : Int)); refine (L8 _).out.mono ?_; rintro e w9 ⟨rfl, kk9⟩; have bx9 := by2.more kk9) | (go_at_call_of 177 (Value.int IntKind.i64 (v9 : Int)); refine (L9 _).out.mono ?_; rintro e w10 ⟨rfl, kk10⟩; have bx10 := bx9.more kk10) | (go_at_call_of 177 (Value.int IntKind.i64 (v10 : Int)); refine (L10 _).out.mono ?_; rintro e w11 ⟨rfl, kk11⟩; have bx11 := bx10.more kk11) | (go_at_call_of 177 (Value.int IntKind.i64 (v11 : Int)); refine (L11 _).out.mono ?_; rintro e w12 ⟨rfl, kk12⟩; have bx12 := bx11.more kk12))
   all_goals
    have by3 := bx12.drew
    have hk3 := ((((hk2.trans kk9).trans kk10).trans kk11).trans kk12).drew
    have d3_12 := bx12.cell 12 _ rfl
    have d3_13 := bx12.cell 13 _ rfl
    clear by2 hk2 bx9 bx10 bx11 bx12 kk9 kk10 kk11 kk12
    go_upto_region 4 with fail
    go_region_held3 (fun w' => w'.cell? ⟨w.heap.size, 12, none⟩ = some (.int .i64 v12) /\ w'.cell? ⟨w.heap.size, 13, none⟩ = some (.int .i64 v13)) (first | go_keep | exact ⟨bx13.cell 12 _ rfl, bx13.cell 13 _ rfl⟩ | exact ⟨bx14.cell 12 _ rfl, bx14.cell 13 _ rfl⟩) (first | (go_at_call_of 177 (Value.int IntKind.i64 (v12 : Int)); refine (L12 _).out.mono ?_; rintro e w13 ⟨rfl, kk13⟩; have bx13 := by3.more kk13) | (go_at_call_of 177 (Value.int IntKind.i64 (v13 : Int)); refine (L13 _).out.mono ?_; rintro e w14 ⟨rfl, kk14⟩; have bx14 := bx13.more kk14))
    all_goals
     have by4 := bx14.drew
     have hk4 := ((hk3.trans kk13).trans kk14).drew
     have d4_14 := bx14.cell 14 _ rfl
     have d4_15 := bx14.cell 15 _ rfl
     have d4_16 := bx14.cell 16 _ rfl
     have d4_17 := bx14.cell 17 _ rfl
     clear by3 hk3 bx13 bx14 kk13 kk14
     go_upto_region 5 with fail
     go_region_held3 (fun w' => w'.cell? ⟨w.heap.size, 14, none⟩ = some (.int .i64 v14) /\ w'.cell? ⟨w.heap.size, 15, none⟩ = some (.int .i64 v15) /\ w'.cell? ⟨w.heap.size, 16, none⟩ = some (.int .i64 v16) /\ w'.cell? ⟨w.heap.size, 17, none⟩ = some (.int .i64 v17)) (first | go_keep | exact ⟨bx15.cell 14 _ rfl, bx15.cell 15 _ rfl, bx15.cell 16 _ rfl, bx15.cell 17 _ rfl⟩ | exact ⟨bx16.cell 14 _ rfl, bx16.cell 15 _ rfl, bx16.cell 16 _ rfl, bx16.cell 17 _ rfl⟩ | exact ⟨bx17.cell 14 _ rfl, bx17.cell 15 _ rfl, bx17.cell 16 _ rfl, bx17.cell 17 _ rfl⟩ | exact ⟨bx18.cell 14 _ rfl, bx18.cell 15 _ rfl, bx18.cell 16 _ rfl, bx18.cell 17 _ rfl⟩) (first | (go_at_call_of 177 (Value.int IntKind.i64 (v14 : Int)); refine (L14 _).out.mono ?_; rintro e w15 ⟨rfl, kk15⟩; have bx15 := by4.more kk15) | (go_at_call_of 177 (Value.int IntKind.i64 (v15 : Int)); refine (L15 _).out.mono ?_; rintro e w16 ⟨rfl, kk16⟩; have bx16 := bx15.more kk16) | (go_at_call_of 177 (Value.int IntKind.i64 (v16 : Int)); refine (L16 _).out.mono ?_; rintro e w17 ⟨rfl, kk17⟩; have bx17 := bx16.more kk17) | (go_at_call_of 177 (Value.int IntKind.i64 (v17 : Int)); refine (L17 _).out.mono ?_; rintro e w18 ⟨rfl, kk18⟩; have bx18 := bx17.more kk18))
     all_goals
      have by5 := bx18.drew
      have hk5 := ((((hk4.trans kk15).trans kk16).trans kk17).trans kk18).drew
      have d5_18 := bx18.cell 18 _ rfl
      have d5_19 := bx18.cell 19 _ rfl
      have d5_20 := bx18.cell 20 _ rfl
      have d5_21 := bx18.cell 21 _ rfl
      have d5_22 := bx18.cell 22 _ rfl
      clear by4 hk4 bx15 bx16 bx17 bx18 kk15 kk16 kk17 kk18
      go_upto_region 6 with fail
      go_region_held3 (fun w' => w'.cell? ⟨w.heap.size, 18, none⟩ = some (.int .i64 v18) /\ w'.cell? ⟨w.heap.size, 19, none⟩ = some (.int .i64 v19) /\ w'.cell? ⟨w.heap.size, 20, none⟩ = some (.int .i64 v20) /\ w'.cell? ⟨w.heap.size, 21, none⟩ = some (.int .i64 v21) /\ w'.cell? ⟨w.heap.size, 22, none⟩ = some (.int .i64 v22)) (first | go_keep | exact ⟨bx19.cell 18 _ rfl, bx19.cell 19 _ rfl, bx19.cell 20 _ rfl, bx19.cell 21 _ rfl, bx19.cell 22 _ rfl⟩ | exact ⟨bx20.cell 18 _ rfl, bx20.cell 19 _ rfl, bx20.cell 20 _ rfl, bx20.cell 21 _ rfl, bx20.cell 22 _ rfl⟩ | exact ⟨bx21.cell 18 _ rfl, bx21.cell 19 _ rfl, bx21.cell 20 _ rfl, bx21.cell 21 _ rfl, bx21.cell 22 _ rfl⟩) (first | (go_at_call_of 177 (Value.int IntKind.i64 (v18 : Int)); refine (L18 _).out.mono ?_; rintro e w19 ⟨rfl, kk19⟩; have bx19 := by5.more kk19) | (go_at_call_of 179 (Value.agg #[Value.int IntKind.i64 (v19 : Int), Value.int IntKind.i64 (v20 : Int)]); refine (L19 _).out.mono ?_; rintro e w20 ⟨rfl, kk20⟩; have bx20 := bx19.more kk20) | (go_at_call_of 179 (Value.agg #[Value.int IntKind.i64 (v21 : Int), Value.int IntKind.i64 (v22 : Int)]); refine (L20 _).out.mono ?_; rintro e w21 ⟨rfl, kk21⟩; have bx21 := bx20.more kk21))
      all_goals
       go_wp2_with fail
       go_ret
       exact ⟨rfl, (((hk5.trans kk19).trans kk20).trans kk21)⟩
theorem x_csrShow (X : XS) (w : World) : CK 117 #[.agg (csL X).toArray] (.string (csrS X)) w :=
 x_csrShow' X.c.mstatus X.c.medeleg X.c.mideleg X.c.mie X.c.mip X.c.mtvec X.c.mcen X.c.minh X.c.mscratch X.c.mepc X.c.mcause X.c.mtval X.c.stvec X.c.scen X.c.sscratch X.c.sepc X.c.scause X.c.stval X.c.satp X.c.cyc X.c.cych X.c.ret X.c.reth w
def regG (x : List Nat) : Nat -> Nat -> ByteArray -> ByteArray
 | 0, _, s => s
 | n + 1, k, s => regG x n (k + 1) (s ++ leA (x.getD k 0) 4)
theorem regG_size (x : List Nat) : ∀ (n k : Nat) (s : ByteArray), (regG x n k s).size = s.size + 4 * n
 | 0, _, _ => rfl
 | n + 1, k, s => by
  rw [regG, regG_size x n, ByteArray.size_append, leA_size]; omega
def hartS (X : XS) : ByteArray := (((regG X.x 32 0 (leA X.pc 4) ++ (if X.waits = true then ⟨#[119]⟩ else ⟨#[45]⟩)) ++ (if X.resd = true then ⟨#[114]⟩ else ⟨#[45]⟩)) ++ leA X.resv 5) ++ leA X.mode 1
structure HartL (X : XS) (cs : List Value) : Prop where
 x : ∀ k, k < 32 -> cs[k]? = some (.int .i64 (X.x.getD k 0))
 pc : cs[32]? = some (.int .i64 X.pc)
 mode : cs[33]? = some (.int .i64 X.mode)
 waits : cs[34]? = some (.bool X.waits)
 resd : cs[35]? = some (.bool X.resd)
 resv : cs[36]? = some (.int .i64 X.resv)
 len : cs.length = 37
theorem x_hartShow' (X : XS) (cs : List Value) (hc : Hid (HartL X cs)) (w : World) :
 CK 116 #[.agg cs.toArray] (.string (hartS X)) w := by
 have L1 := fun W => hide1 (l_Le (X.pc : Int) 4 (by decide) W)
 have y1 := leA_size (X.pc : Int) 4
 obtain ⟨u1, h1⟩ := zn1 (leA X.pc 4)
 unfold hartS
 simp only [<- h1] at L1 y1 |-
 clear h1
 have HL := hide1 hc.out.len
 have bx0 := BoxAt.new w cs 67
 have c32 := hc.out.pc
 have hk0 : Kept [] w (w.alloc (.cells cs.toArray 67)) := zq135
 obtain ⟨T, hT⟩ := zn1 (regG X.x 32 0 u1)
 have zT : T.size = 132 := by rw [hT, regG_size]; omega
 rw [<- hT]
 have HT := hide1 hT
 clear hT
 have L2 := fun W => hide1 (x_eith X.waits ⟨#[119]⟩ ⟨#[45]⟩ W)
 have L3 := fun W => hide1 (x_eith X.resd ⟨#[114]⟩ ⟨#[45]⟩ W)
 have L4 := fun W => hide1 (l_Le (X.resv : Int) 5 (by decide) W)
 have L5 := fun W => hide1 (l_Le (X.mode : Int) 1 (by decide) W)
 have y2 : (if X.waits = true then (⟨#[119]⟩ : ByteArray) else ⟨#[45]⟩).size = 1 := by cases X.waits <;> rfl
 have y3 : (if X.resd = true then (⟨#[114]⟩ : ByteArray) else ⟨#[45]⟩).size = 1 := by cases X.resd <;> rfl
 have y4 := leA_size (X.resv : Int) 5
 have y5 := leA_size (X.mode : Int) 1
 obtain ⟨u2, h2⟩ := zn1 ((if X.waits = true then (⟨#[119]⟩ : ByteArray) else ⟨#[45]⟩))
 obtain ⟨u3, h3⟩ := zn1 ((if X.resd = true then (⟨#[114]⟩ : ByteArray) else ⟨#[45]⟩))
 obtain ⟨u4, h4⟩ := zn1 (leA X.resv 5)
 obtain ⟨u5, h5⟩ := zn1 (leA X.mode 1)
 simp only [<- h2, <- h3, <- h4, <- h5] at L2 L3 L4 L5 y2 y3 y4 y5 |-
 obtain ⟨s2, g2, z2, a2⟩ := add_in T u2 (by omega)
 obtain ⟨s3, g3, z3, a3⟩ := add_in s2 u3 (by omega)
 obtain ⟨s4, g4, z4, a4⟩ := add_in s3 u4 (by omega)
 obtain ⟨s5, g5, z5, a5⟩ := add_in s4 u5 (by omega)
 rw [<- g2, <- g3, <- g4, <- g5]
 clear h2 h3 h4 h5 g2 g3 g4 g5 z2 z3 z4 z5 y2 y3 y4 y5
 obtain ⟨pc, hpc⟩ := zn1 (X.pc)
 have c33 := hc.out.mode
 have c34 := hc.out.waits
 have c35 := hc.out.resd
 have c36 := hc.out.resv
 go_enter func116, ntmps116
 go_wp2_with fail
 refine (L1 _).out.mono ?_
 rintro e w1 ⟨rfl, hk1⟩
 have bx1 := hide1 (bx0.more hk1)
 have hk2 := hide1 (hk0.trans hk1)
 clear bx0 hk0 hk1 L1 c32
 go_wp2_with fail
 go_loopw [3, 4] (fun c d wr => ∃ (k : Nat) (t : ByteArray), k <= 32 /\ c = .string t /\ d = .int .i64 k /\ Hid (t.size = 4 + 4 * k) /\ Hid (BoxAt wr w.heap.size cs) /\ Hid (Kept [] w wr) /\ Hid (T = regG X.x (32 - k) k t)) (fun _ d _ => 32 - (intOf d).toNat)
 case atStart => exact ⟨0, u1, by omega, rfl, rfl, hide1 (by omega), bx1, hk2, HT⟩
 case round =>
  obtain ⟨k, t, hk, rfl, rfl, hts, hb, hkr, hg⟩ := hrel
  clear HT bx1 hk2
  by_cases hlt : k < 32
  . have hlt' : decide ((k : Int) < 32) = true := by simp; omega
    have ck := hb.out.cell k _ (hc.out.x k hlt)
    obtain ⟨v, hv⟩ := zn1 (X.x.getD k 0)
    have hg2 : Hid (T = regG X.x (32 - (k + 1)) (k + 1) (t ++ leA v 4)) := by
     show T = _
     rw [hg.out, show 32 - k = (32 - (k + 1)) + 1 by omega, hv]; rfl
    rw [<- hv] at ck
    have LV := fun W => hide1 (l_Le (v : Int) 4 (by decide) W)
    have yv := leA_size (v : Int) 4
    obtain ⟨u, hu⟩ := zn1 (leA v 4)
    rw [<- hu] at hg2 yv
    simp only [<- hu] at LV
    have htz := hts.out
    obtain ⟨t2, gt, zt, at2⟩ := add_in t u (by omega)
    rw [<- gt] at hg2
    have hz2 : Hid (t2.size = 4 + 4 * (k + 1)) := hide1 (by omega)
    clear hg hv hu gt zt htz hts yv
    have hkk : (k : Int) < 32 := by omega
    go_wp2_with fail
    refine (LV _).out.mono ?_
    rintro e w2 ⟨rfl, hk2⟩
    have hb2 := hide1 (hb.out.more hk2)
    have hkr2 := hide1 (hkr.out.trans hk2)
    go_wp2_with fail
    go_roundw
    case rel => exact ⟨k + 1, t2, by omega, rfl, by go_num, hz2, hb2, hkr2, hg2⟩
    case measure => exact zq188
  . have hlt' : decide ((k : Int) < 32) = false := by simp; omega
    have hTT : T = t := by rw [hg.out, show 32 - k = 0 by omega]; rfl
    subst hTT
    have d34 := hb.out.cell 34 _ c34
    have d35 := hb.out.cell 35 _ c35
    have d33 := hb.out.cell 33 _ c33
    have d36 := hb.out.cell 36 _ c36
    clear hg hts zT
    obtain ⟨wa, hwa⟩ := zn1 (X.waits)
    obtain ⟨re, hre⟩ := zn1 (X.resd)
    obtain ⟨rv, hrv⟩ := zn1 (X.resv)
    obtain ⟨mo, hmo⟩ := zn1 (X.mode)
    simp only [<- hwa, <- hre, <- hrv, <- hmo] at *
    clear hwa hre hrv hmo hc
    go_upto_region 6 with fail
    go_region_held3 (fun w' => w'.cell? ⟨w.heap.size, 34, none⟩ = some (.bool wa) /\ w'.cell? ⟨w.heap.size, 35, none⟩ = some (.bool re)) (go_keep) (first | (go_at_call_of 178 (Value.bool wa); refine (L2 _).out.mono ?_; rintro e w3 ⟨rfl, rfl⟩) | (go_at_call_of 178 (Value.bool re); refine (L3 _).out.mono ?_; rintro e w4 ⟨rfl, rfl⟩))
    all_goals
     have bx5 := hb.out.drew.drew
     have hk5 := hkr.out.drew.drew
     go_upto_region 7 with fail
     go_region_held3 (fun w' => w'.cell? ⟨w.heap.size, 36, none⟩ = some (.int .i64 rv) /\ w'.cell? ⟨w.heap.size, 33, none⟩ = some (.int .i64 mo)) (first | go_keep | exact ⟨bx6.cell 36 _ c36, bx6.cell 33 _ c33⟩ | exact ⟨bx7.cell 36 _ c36, bx7.cell 33 _ c33⟩) (first | (go_at_call_of 177 (Value.int IntKind.i64 (rv : Int)); refine (L4 _).out.mono ?_; rintro e w6 ⟨rfl, hk6⟩; have bx6 := bx5.more hk6) | (go_at_call_of 177 (Value.int IntKind.i64 (mo : Int)); refine (L5 _).out.mono ?_; rintro e w7 ⟨rfl, hk7⟩; have bx7 := bx6.more hk7))
     all_goals
      go_wp2_with fail
      go_ret
      exact ⟨rfl, (hk5.trans hk6).trans hk7⟩
end Go.Proofs.YtmlgonbhoknoiaaGreatDoor
