import Derived.Test.YtmlgonbhoknoiabGreatDoorYAB
set_option maxHeartbeats 8000000
set_option linter.all false
namespace Go.Proofs.YtmlgonbhoknoiabGreatDoor
open Go.RowKit Go.Proofs.Tryz
section
attribute [local go_sem ↓] Go.wp_at_zero Go.wp_at_succ
theorem XS.okB {X : XS} (hX : XOk X) {B : BusS} (hB : BusOk B) : XOk (X.withB B) := ⟨hB, hX.x, hX.xr, hX.pc, hX.mode, hX.mstatus, hX.satp, hX.mie, hX.mip, hX.medeleg, hX.mideleg, hX.mtvec, hX.mcen, hX.minh, hX.mscratch, hX.mepc, hX.mcause, hX.mtval, hX.stvec, hX.scen, hX.sscratch, hX.sepc, hX.scause, hX.stval, hX.cyc, hX.cych, hX.ret, hX.reth, hX.resv, hX.mpp⟩
theorem xfau_ne (f k : Int) : (xfauD f k == -1) = false := by
 unfold xfauD
 repeat' split
 all_goals decide
theorem x_fetchHalf (mb rb X) (hX : XOk X) (va : Nat) (hva : va < 4294967296) (w) (hw : Hid (XAt w mb rb X)) :
 CX 191 #[.pointer (some ⟨mb, 0, none⟩), .int .i64 va] (trV (halfD X.b (xC X) va) va 0) [rb] mb rb (X.withB (halfD X.b (xC X) va).2) w := by
 have hlt := hw.out.lt
 have hrlt := hw.out.rlt
 have hwa : Hid (XAt (w.alloc (.cells #[.int .i64 0, .int .i64 0] 118)) mb rb X) := zq10
 have TR : Hid (∀ W, Hid (XAt W mb rb X) -> CX 260 #[.pointer (some ⟨mb, 0, none⟩), .int .i64 va, .int .i64 0] (trV (trD X.b (xC X) va 0) va 0) [rb] mb rb (X.withB (trD X.b (xC X) va 0).2) W) := hide1 (fun W h => x_translate mb rb X hX va 0 hva (.inl rfl) W h)
 have hok := tr_ok hX.b (xC X) va 0
 have hpa := (tr_lt X.b (xC X) va 0 hva).1
 unfold halfD
 obtain ⟨T, hT⟩ := zn1 (trD X.b (xC X) va 0)
 simp only [<- hT] at TR
 rw [<- hT] at hok hpa |-
 clear hT
 obtain ⟨⟨pa, f⟩, B⟩ := T
 have hXB := XS.okB hX hok
 have hram := hok.ram
 dsimp only at TR hok hpa hXB hram |-
 unfold halfP
 dsimp only
 have eB : (X.withB B).b = B := rfl
 by_cases h0 : f = 0
 . subst h0
   rw [if_pos rfl]
   rw [show trV ((pa, 0), B) va 0 = .tuple #[.int .i64 pa, .agg #[.int .i64 (-1), .int .i64 0]] from rfl] at TR
   have IR : ∀ W, Hid (XAt W mb rb (X.withB B)) -> CS 261 #[.pointer (some ⟨mb, 0, none⟩), .int .i64 pa, .int .i64 2] (.bool (holdsD pa 2 B.ram.length)) W := fun W h => x_isRam mb rb (X.withB B) hram pa 2 (by omega) (by omega) (by omega) (by omega) W h
   cases hh : holdsD (pa : Nat) 2 B.ram.length with
   | false =>
    rw [if_neg (by simp)]
    rw [show trV ((0, 2), B) va 0 = .tuple #[.int .i64 0, .agg #[.int .i64 1, .int .i64 va]] from rfl]
    simp only [hh] at IR
    have HI := hide1 IR
    clear IR hh hX hw hXB
    go_enter func191, ntmps191
    go_wp2_with fail
    refine (TR.out _ hwa).mono ?_
    rintro o w1 ⟨rfl, hx1, hk1⟩
    have rc0w1 : w1.cell? ⟨w.heap.size, 0, none⟩ = some (.int .i64 0) := zq13
    have rc1w1 : w1.cell? ⟨w.heap.size, 1, none⟩ = some (.int .i64 0) := zq13
    have rfw1 : ∀ o, w1.frozen? ⟨w.heap.size, o, none⟩ = false := zq14
    have rzw1 : w.heap.size < w1.heap.size := zq15
    have hx2 : Hid (XAt ((w1.alloc (.cells #[.int .i64 (-1), .int .i64 0] 118)).alloc (.cells #[.int .i64 (-1), .int .i64 0] 118)) mb rb (X.withB B)) := zq16
    go_wp2_with (first | (go_at_call 82; refine (x_none _ _ _).mono ?_; rintro o wn ⟨rfl, rfl⟩) | (go_at_call 261; refine (HI.out _ hx2).mono ?_; rintro o w2 ⟨rfl, rfl⟩))
    refine bodyPost_ret (v := .tuple #[.int .i64 0, .agg #[.int .i64 1, .int .i64 va]]) zq502 rfl ⟨rfl, hx1.box w.heap.size ?_ hlt hrlt, ?_⟩
    . exact zq239
    . exact zq240
   | true =>
    rw [if_pos rfl]
    have hr : 2147483648 <= pa /\ pa - 2147483648 + 2 <= B.ram.length := by
     have h := hh
     unfold holdsD at h; simp at h; omega
    obtain ⟨p, hp⟩ := zn1 (pa - 2147483648)
    rw [<- hp] at hr |-
    have RN : Hid (∀ W, Hid (XAt W mb rb (X.withB B)) -> CS 262 #[.pointer (some ⟨mb, 0, none⟩), .int .i64 pa, .int .i64 2] (.int .i64 (rdRam B p 2)) W) := hide1 (fun W h => x_ramNumber_yes mb rb (X.withB B) hram pa p 2 (by omega) (by omega) (by omega) hr.2 W h)
    obtain ⟨v, hv⟩ := zn1 (rdRam B p 2)
    simp only [<- hv] at RN
    rw [<- hv]
    rw [show trV ((v, 0), B) va 0 = .tuple #[.int .i64 v, .agg #[.int .i64 (-1), .int .i64 0]] from rfl]
    simp only [hh] at IR
    have HI := hide1 IR
    clear IR hh hX hw hXB hp hr hv
    go_enter func191, ntmps191
    go_wp2_with fail
    refine (TR.out _ hwa).mono ?_
    rintro o w1 ⟨rfl, hx1, hk1⟩
    have rc0w1 : w1.cell? ⟨w.heap.size, 0, none⟩ = some (.int .i64 0) := zq13
    have rc1w1 : w1.cell? ⟨w.heap.size, 1, none⟩ = some (.int .i64 0) := zq13
    have rfw1 : ∀ o, w1.frozen? ⟨w.heap.size, o, none⟩ = false := zq14
    have rzw1 : w.heap.size < w1.heap.size := zq15
    have hx2 : Hid (XAt ((w1.alloc (.cells #[.int .i64 (-1), .int .i64 0] 118)).alloc (.cells #[.int .i64 (-1), .int .i64 0] 118)) mb rb (X.withB B)) := zq16
    have hx3 := hide1 hx2.out.drew
    go_upto_region 6 with (first | (go_at_call 82; refine (x_none _ _ _).mono ?_; rintro o wn ⟨rfl, rfl⟩) | (go_at_call 261; refine (HI.out _ hx2).mono ?_; rintro o w2 ⟨rfl, rfl⟩))
    go_region_with (first | (go_at_call 262; refine (RN.out _ hx3).mono ?_; rintro o w2 ⟨rfl, rfl⟩))
    all_goals
     go_wp2_with fail
     refine bodyPost_ret (v := .tuple #[.int .i64 v, .agg #[.int .i64 (-1), .int .i64 0]]) zq502 rfl ⟨rfl, hx1.box w.heap.size ?_ hlt hrlt, ?_⟩
     . exact zq239
     . exact zq240
 . rw [if_neg h0]
   rw [show trV ((pa, f), B) va 0 = .tuple #[.int .i64 0, .agg #[.int .i64 (xfauD f 0), .int .i64 va]] by unfold trV; dsimp only; rw [if_neg h0]; rfl] at TR
   rw [show trV ((0, f), B) va 0 = .tuple #[.int .i64 0, .agg #[.int .i64 (xfauD f 0), .int .i64 va]] by unfold trV; dsimp only; rw [if_neg h0]; rfl]
   have hn := xfau_ne f 0
   obtain ⟨c, hc⟩ := zn1 (xfauD f 0)
   simp only [<- hc] at TR hn |-
   clear h0 hX hw hXB hc
   go_enter func191, ntmps191
   go_wp2_with fail
   refine (TR.out _ hwa).mono ?_
   rintro o w1 ⟨rfl, hx1, hk1⟩
   have rc0w1 : w1.cell? ⟨w.heap.size, 0, none⟩ = some (.int .i64 0) := zq13
   have rc1w1 : w1.cell? ⟨w.heap.size, 1, none⟩ = some (.int .i64 0) := zq13
   have rfw1 : ∀ o, w1.frozen? ⟨w.heap.size, o, none⟩ = false := zq14
   have rzw1 : w.heap.size < w1.heap.size := zq15
   go_upto_region 3 with (first | (go_at_call 82; refine (x_none _ _ _).mono ?_; rintro o wn ⟨rfl, rfl⟩))
   go_region
   all_goals
    go_wp2_with fail
    refine bodyPost_ret (v := .tuple #[.int .i64 0, .agg #[.int .i64 c, .int .i64 va]]) zq502 rfl ⟨rfl, hx1.box w.heap.size ?_ hlt hrlt, ?_⟩
    . exact zq239
    . exact zq240
structure Fw where
 w : Nat
 f : Nat
 at' : Nat
def fetchD (B : BusS) (C : CsrS) (pc : Nat) : Fw × BusS :=
 if (halfD B C pc).1.2 = 0 then
  (if (halfD B C pc).1.1 % 4 = 3 then
    (if (halfD (halfD B C pc).2 C ((pc + 2) % 4294967296)).1.2 = 0 then (⟨(halfD B C pc).1.1 + (halfD (halfD B C pc).2 C ((pc + 2) % 4294967296)).1.1 * 65536, 0, 0⟩, (halfD (halfD B C pc).2 C ((pc + 2) % 4294967296)).2)
     else (⟨0, (halfD (halfD B C pc).2 C ((pc + 2) % 4294967296)).1.2, (pc + 2) % 4294967296⟩, (halfD (halfD B C pc).2 C ((pc + 2) % 4294967296)).2))
   else (⟨(halfD B C pc).1.1, 0, 0⟩, (halfD B C pc).2))
 else (⟨0, (halfD B C pc).1.2, pc⟩, (halfD B C pc).2)
def fwV (t : Fw) : Value := if t.f = 0 then .tuple #[.int .i64 t.w, .agg #[.int .i64 (-1), .int .i64 0]] else .tuple #[.int .i64 0, .agg #[.int .i64 (xfauD t.f 0), .int .i64 t.at']]
theorem half_v (B : BusS) (C : CsrS) (va : Nat) : (halfD B C va).1.1 < 65536 := by
 unfold halfD halfP
 repeat' split
 all_goals dsimp only
 . exact rdRam_lt _ _ 2
 all_goals omega
theorem trV_ok (t : (Nat × Nat) × BusS) (va k : Nat) (h : t.1.2 = 0) : trV t va k = .tuple #[.int .i64 t.1.1, .agg #[.int .i64 (-1), .int .i64 0]] := by unfold trV; rw [if_pos h]
theorem trV_no (t : (Nat × Nat) × BusS) (va k : Nat) (h : ¬ t.1.2 = 0) : trV t va k = .tuple #[.int .i64 0, .agg #[.int .i64 (xfauD t.1.2 k), .int .i64 va]] := by unfold trV; rw [if_neg h]
theorem wordN_add2 (pc : Nat) : wordN ((pc : Int) + 2) = (pc + 2) % 4294967296 := by unfold wordN; omega
theorem x_fetch (mb rb X) (hX : XOk X) (w) (hw : Hid (XAt w mb rb X)) :
 CX 131 #[.pointer (some ⟨mb, 0, none⟩)] (fwV (fetchD X.b (xC X) X.pc).1) [rb] mb rb (X.withB (fetchD X.b (xC X) X.pc).2) w := by
 have hlt := hw.out.lt
 have hrlt := hw.out.rlt
 have c33 := hw.out.c33
 have hpc := hX.pc
 have hwa : Hid (XAt (w.alloc (.cells #[.int .i64 0, .int .i64 0] 118)) mb rb X) := zq10
 have H1 := hide1 (fun W h => x_fetchHalf mb rb X hX X.pc hpc W h)
 have hok := half_ok hX.b (xC X) X.pc
 have hv := half_v X.b (xC X) X.pc
 unfold fetchD
 have ep : ∀ B, (X.withB B).pc = X.pc := fun _ => rfl
 obtain ⟨T, hT⟩ := zn1 (halfD X.b (xC X) X.pc)
 simp only [<- hT] at H1 hok hv |-
 clear hT
 obtain ⟨⟨lo, f⟩, B⟩ := T
 have hXB := XS.okB hX hok
 dsimp only at hok hv hXB |-
 by_cases h0 : f = 0
 . subst h0
   rw [if_pos rfl]
   simp only [trV_ok ((lo, 0), B) X.pc 0 rfl] at H1
   try dsimp only at H1
   have m3 : bits .and .i64 (lo : Int) 3 = ((lo % 4 : Nat) : Int) := by rw [and_three]; simp
   by_cases h3 : lo % 4 = 3
   . rw [if_pos h3]
     rw [h3] at m3
     have m3' : bits .and .i64 (lo : Int) 3 = 3 := m3
     have H2 := hide1 (fun W h => x_fetchHalf mb rb (X.withB B) hXB ((X.pc + 2) % 4294967296) (by omega) W h)
     have eC : xC (X.withB B) = xC X := rfl
     have eb : (X.withB B).b = B := rfl
     simp only [eC, eb] at H2
     have hok2 := half_ok hok (xC X) ((X.pc + 2) % 4294967296)
     have hv2 := half_v B (xC X) ((X.pc + 2) % 4294967296)
     have WD : Hid (∀ W, CS 135 #[.int .i64 ((X.pc : Int) + 2)] (.int .i64 ((X.pc + 2) % 4294967296 : Nat)) W) := hide1 (fun W => by have := x_word ((X.pc : Int) + 2) W; rw [wordN_add2] at this; exact this)
     obtain ⟨nx, hnx⟩ := zn1 ((X.pc + 2) % 4294967296)
     simp only [<- hnx] at H2 hok2 hv2 WD |-
     obtain ⟨T, hT⟩ := zn1 (halfD B (xC X) nx)
     simp only [<- hT] at H2 hok2 hv2 |-
     clear hT hnx m3
     obtain ⟨⟨hi, f2⟩, B2⟩ := T
     have hBB : (X.withB B).withB B2 = X.withB B2 := rfl
     simp only [hBB] at H2
     dsimp only at H2 hok2 hv2 |-
     by_cases h2 : f2 = 0
     . subst h2
       rw [if_pos rfl]
       simp only [trV_ok ((hi, 0), B2) nx 0 rfl] at H2
       rw [show fwV ⟨lo + hi * 65536, 0, 0⟩ = .tuple #[.int .i64 ((lo + hi * 65536 : Nat) : Int), .agg #[.int .i64 (-1), .int .i64 0]] from rfl]
       try dsimp only at H2 |-
       have wr : IntKind.i64.wrap ((hi : Int) * 65536) = ((hi * 65536 : Nat) : Int) := zq9
       have wr2 : IntKind.i64.wrap ((lo : Int) + ((hi * 65536 : Nat) : Int)) = ((lo + hi * 65536 : Nat) : Int) := zq9
       clear hX hXB hw h3
       go_enter func131, ntmps131
       go_wp2_with fail
       refine (H1.out _ hwa).mono ?_
       rintro o w1 ⟨rfl, hx1, hk1⟩
       have rc0w1 : w1.cell? ⟨w.heap.size, 0, none⟩ = some (.int .i64 0) := zq17
       have rc1w1 : w1.cell? ⟨w.heap.size, 1, none⟩ = some (.int .i64 0) := zq17
       have rfw1 : ∀ o, w1.frozen? ⟨w.heap.size, o, none⟩ = false := zq18
       have rzw1 : w.heap.size < w1.heap.size := zq15
       have c33b := hx1.c33
       have hl1 := hx1.lt
       rw [ep] at c33b
       have hx2 : Hid (XAt ((w1.alloc (.cells #[.int .i64 (-1), .int .i64 0] 118)).alloc (.cells #[.int .i64 (-1), .int .i64 0] 118)) mb rb (X.withB B)) := zq16
       go_wp2_with (first | (go_at_call 82; refine (x_none _ _ _).mono ?_; rintro o wn ⟨rfl, rfl⟩) | (go_at_call 135; refine (WD.out _).mono ?_; rintro o w2 ⟨rfl, rfl⟩))
       refine (H2.out _ hx2).mono ?_
       rintro o w2 ⟨rfl, hx3, hk2⟩
       have rc0w2 : w2.cell? ⟨w.heap.size, 0, none⟩ = some (.int .i64 0) := zq19
       have rc1w2 : w2.cell? ⟨w.heap.size, 1, none⟩ = some (.int .i64 0) := zq19
       have rfw2 : ∀ o, w2.frozen? ⟨w.heap.size, o, none⟩ = false := zq20
       have rzw2 : w.heap.size < w2.heap.size := zq21
       have mc0w2 : w2.cell? ⟨w1.heap.size, 0, none⟩ = some (.int .i64 (-1)) := zq19
       have mc1w2 : w2.cell? ⟨w1.heap.size, 1, none⟩ = some (.int .i64 0) := zq19
       have mfw2 : ∀ o, w2.frozen? ⟨w1.heap.size, o, none⟩ = false := zq20
       have mzw2 : w1.heap.size < w2.heap.size := zq21
       go_upto_region 7 with (first | (go_at_call 82; refine (x_none _ _ _).mono ?_; rintro o wn ⟨rfl, rfl⟩))
       go_region
       all_goals
        go_wp2_with fail
        refine bodyPost_ret (v := .tuple #[.int .i64 ((lo + hi * 65536 : Nat) : Int), .agg #[.int .i64 (-1), .int .i64 0]]) zq503 rfl ⟨rfl, hx3.more (G := [w.heap.size, w1.heap.size]) ?_ (by simp; omega) (by simp; omega), ?_⟩
        . exact zq239
        . exact zq241
     . rw [if_neg h2]
       simp only [trV_no ((hi, f2), B2) nx 0 h2] at H2
       rw [show fwV ⟨0, f2, nx⟩ = .tuple #[.int .i64 0, .agg #[.int .i64 (xfauD f2 0), .int .i64 nx]] by unfold fwV; dsimp only; rw [if_neg h2]]
       try dsimp only at H2 |-
       have hn := xfau_ne f2 0
       obtain ⟨c, hc⟩ := zn1 (xfauD f2 0)
       have hc' : xfauD f2 ((0 : Nat) : Int) = c := hc.symm
       simp only [hc'] at H2
       rw [<- hc] at hn |-
       clear hX hXB hw h3 h2 hc hc'
       go_enter func131, ntmps131
       go_wp2_with fail
       refine (H1.out _ hwa).mono ?_
       rintro o w1 ⟨rfl, hx1, hk1⟩
       have rc0w1 : w1.cell? ⟨w.heap.size, 0, none⟩ = some (.int .i64 0) := zq17
       have rc1w1 : w1.cell? ⟨w.heap.size, 1, none⟩ = some (.int .i64 0) := zq17
       have rfw1 : ∀ o, w1.frozen? ⟨w.heap.size, o, none⟩ = false := zq18
       have rzw1 : w.heap.size < w1.heap.size := zq15
       have c33b := hx1.c33
       have hl1 := hx1.lt
       rw [ep] at c33b
       have hx2 : Hid (XAt ((w1.alloc (.cells #[.int .i64 (-1), .int .i64 0] 118)).alloc (.cells #[.int .i64 (-1), .int .i64 0] 118)) mb rb (X.withB B)) := zq16
       go_wp2_with (first | (go_at_call 82; refine (x_none _ _ _).mono ?_; rintro o wn ⟨rfl, rfl⟩) | (go_at_call 135; refine (WD.out _).mono ?_; rintro o w2 ⟨rfl, rfl⟩))
       refine (H2.out _ hx2).mono ?_
       rintro o w2 ⟨rfl, hx3, hk2⟩
       have rc0w2 : w2.cell? ⟨w.heap.size, 0, none⟩ = some (.int .i64 0) := zq19
       have rc1w2 : w2.cell? ⟨w.heap.size, 1, none⟩ = some (.int .i64 0) := zq19
       have rfw2 : ∀ o, w2.frozen? ⟨w.heap.size, o, none⟩ = false := zq20
       have rzw2 : w.heap.size < w2.heap.size := zq21
       have mc0w2 : w2.cell? ⟨w1.heap.size, 0, none⟩ = some (.int .i64 (-1)) := zq19
       have mc1w2 : w2.cell? ⟨w1.heap.size, 1, none⟩ = some (.int .i64 0) := zq19
       have mfw2 : ∀ o, w2.frozen? ⟨w1.heap.size, o, none⟩ = false := zq20
       have mzw2 : w1.heap.size < w2.heap.size := zq21
       go_upto_region 6 with (first | (go_at_call 82; refine (x_none _ _ _).mono ?_; rintro o wn ⟨rfl, rfl⟩))
       go_region
       all_goals
        go_wp2_with fail
        refine bodyPost_ret (v := .tuple #[.int .i64 0, .agg #[.int .i64 c, .int .i64 nx]]) zq503 rfl ⟨rfl, hx3.more (G := [w.heap.size, w1.heap.size]) ?_ (by simp; omega) (by simp; omega), ?_⟩
        . exact zq239
        . exact zq241
   . rw [if_neg h3]
     have q : (bits .and .i64 (lo : Int) 3 != 3) = true := by rw [m3]; simp; omega
     rw [show fwV ⟨lo, 0, 0⟩ = .tuple #[.int .i64 lo, .agg #[.int .i64 (-1), .int .i64 0]] from rfl]
     clear hX hXB hw h3 m3
     go_enter func131, ntmps131
     go_wp2_with fail
     refine (H1.out _ hwa).mono ?_
     rintro o w1 ⟨rfl, hx1, hk1⟩
     have rc0w1 : w1.cell? ⟨w.heap.size, 0, none⟩ = some (.int .i64 0) := zq17
     have rc1w1 : w1.cell? ⟨w.heap.size, 1, none⟩ = some (.int .i64 0) := zq17
     have rfw1 : ∀ o, w1.frozen? ⟨w.heap.size, o, none⟩ = false := zq18
     have rzw1 : w.heap.size < w1.heap.size := zq15
     go_upto_region 3 with (first | (go_at_call 82; refine (x_none _ _ _).mono ?_; rintro o wn ⟨rfl, rfl⟩))
     go_region
     all_goals
      go_wp2_with fail
      refine bodyPost_ret (v := .tuple #[.int .i64 lo, .agg #[.int .i64 (-1), .int .i64 0]]) zq504 rfl ⟨rfl, hx1.box w.heap.size ?_ hlt hrlt, ?_⟩
      . exact zq239
      . exact zq240
 . rw [if_neg h0]
   simp only [trV_no ((lo, f), B) X.pc 0 h0] at H1
   rw [show fwV ⟨0, f, X.pc⟩ = .tuple #[.int .i64 0, .agg #[.int .i64 (xfauD f 0), .int .i64 X.pc]] by unfold fwV; dsimp only; rw [if_neg h0]]
   try dsimp only at H1 |-
   have hn := xfau_ne f 0
   obtain ⟨c, hc⟩ := zn1 (xfauD f 0)
   have hc' : xfauD f ((0 : Nat) : Int) = c := hc.symm
   simp only [hc'] at H1
   rw [<- hc] at hn |-
   clear hX hXB hw h0 hc hc'
   go_enter func131, ntmps131
   go_wp2_with fail
   refine (H1.out _ hwa).mono ?_
   rintro o w1 ⟨rfl, hx1, hk1⟩
   have rc0w1 : w1.cell? ⟨w.heap.size, 0, none⟩ = some (.int .i64 0) := zq17
   have rc1w1 : w1.cell? ⟨w.heap.size, 1, none⟩ = some (.int .i64 0) := zq17
   have rfw1 : ∀ o, w1.frozen? ⟨w.heap.size, o, none⟩ = false := zq18
   have rzw1 : w.heap.size < w1.heap.size := zq15
   go_upto_region 3 with (first | (go_at_call 82; refine (x_none _ _ _).mono ?_; rintro o wn ⟨rfl, rfl⟩))
   go_region
   all_goals
    go_wp2_with fail
    refine bodyPost_ret (v := .tuple #[.int .i64 0, .agg #[.int .i64 c, .int .i64 X.pc]]) zq504 rfl ⟨rfl, hx1.box w.heap.size ?_ hlt hrlt, ?_⟩
    . exact zq239
    . exact zq240
def rpP (n : Nat) (t : (Nat × Nat) × BusS) : (Nat × Nat) × BusS := if t.1.2 = 0 then (if takesD (t.1.1 : Nat) (n : Nat) t.2.ram.length = true then t else ((0, 2), t.2)) else ((0, t.1.2), t.2)
def rpD (B : BusS) (C : CsrS) (va n k : Nat) : (Nat × Nat) × BusS := rpP n (trD B C va k)
def rpV (t : (Nat × Nat) × BusS) (va n k : Nat) : Value := if t.1.2 = 0 then .tuple #[.agg #[.int .i64 t.1.1, .int .i64 n], .agg #[.int .i64 (-1), .int .i64 0]] else .tuple #[.agg #[.int .i64 0, .int .i64 0], .agg #[.int .i64 (xfauD t.1.2 k), .int .i64 va]]
def tmB (pa n : Int) : Bool := decide (n = 4 /\ (pa = 33554432 \/ pa = 33570816 \/ pa = 33570820 \/ pa = 33603576 \/ pa = 33603580))
def ptB (pa n : Int) : Bool := decide (n = 1 /\ (pa = 268435456 \/ pa = 268435457 \/ pa = 268435458 \/ pa = 268435461 \/ pa = 268435463))
theorem takes_or (pa n : Int) (L : Nat) : takesD pa n L = (holdsD pa n L || tmB pa n || ptB pa n) := by
 unfold takesD
 cases holdsD pa n L
 . simp only [Bool.false_or]
   rw [if_neg (by simp)]
   have e1 : tmB pa n = (decide (n = 4) && isTmr pa) := by unfold tmB isTmr; simp
   have e2 : ptB pa n = (decide (n = 1) && isPrt pa) := by unfold ptB isPrt; simp
   rw [e1, e2]
   cases ht : isTmr pa with
   | true =>
    have hp : isPrt pa = false := by unfold isTmr at ht; unfold isPrt; simp at ht |-; omega
    rw [hp]; simp
   | false => cases hp : isPrt pa <;> simp
 . simp
theorem rp_ok {B : BusS} (hB : BusOk B) (C : CsrS) (va n k : Nat) : BusOk (rpD B C va n k).2 := by
 have := tr_ok hB C va k
 unfold rpD rpP
 exact zq207
theorem x_reachPortion (mb rb X) (hX : XOk X) (va n k : Nat) (hva : va < 4294967296) (hn1 : 1 <= n) (hn4 : n <= 4) (hkk : k = 0 \/ k = 1 \/ k = 2) (w) (hw : Hid (XAt w mb rb X)) :
 CX 339 #[.pointer (some ⟨mb, 0, none⟩), .int .i64 va, .int .i64 n, .int .i64 k] (rpV (rpD X.b (xC X) va n k) va n k) [rb] mb rb (X.withB (rpD X.b (xC X) va n k).2) w := by
 have hlt := hw.out.lt
 have hrlt := hw.out.rlt
 have hwa : Hid (XAt ((w.alloc (.cells #[.int .i64 0, .int .i64 0] 231)).alloc (.cells #[.int .i64 0, .int .i64 0] 118)) mb rb X) := zq22
 have TR := hide1 (fun W h => x_translate mb rb X hX va k hva hkk W h)
 have hok := tr_ok hX.b (xC X) va k
 have hpa := (tr_lt X.b (xC X) va k hva).1
 unfold rpD
 obtain ⟨T, hT⟩ := zn1 (trD X.b (xC X) va k)
 simp only [<- hT] at TR
 rw [<- hT] at hok hpa |-
 clear hT
 obtain ⟨⟨pa, f⟩, B⟩ := T
 have hXB := XS.okB hX hok
 have hram := hok.ram
 dsimp only at TR hok hpa hXB hram |-
 unfold rpP
 dsimp only
 by_cases h0 : f = 0
 . subst h0
   rw [if_pos rfl]
   simp only [trV_ok ((pa, 0), B) va k rfl] at TR
   have IR : ∀ W, Hid (XAt W mb rb (X.withB B)) -> CS 261 #[.pointer (some ⟨mb, 0, none⟩), .int .i64 pa, .int .i64 n] (.bool (holdsD pa n B.ram.length)) W := fun W h => x_isRam mb rb (X.withB B) hram pa n (by omega) (by omega) (by omega) (by omega) W h
   have TM : ∀ W, CS 340 #[.int .i64 pa, .int .i64 n] (.bool (tmB pa n)) W := fun W => x_isTimer pa n (by omega) (by omega) W
   have PT : ∀ W, CS 342 #[.int .i64 pa, .int .i64 n] (.bool (ptB pa n)) W := fun W => x_isPort pa n (by omega) (by omega) W
   have HFC : Hid (∀ W, CS 274 #[.int .i64 2, .int .i64 k] (.int .i64 (xfauD 2 k)) W) := hide1 (fun W => x_faultCause 2 k W)
   rw [takes_or]
   obtain ⟨bH, hH⟩ := zn1 (holdsD pa n B.ram.length)
   obtain ⟨bT, hTT⟩ := zn1 (tmB pa n)
   obtain ⟨bP, hP⟩ := zn1 (ptB pa n)
   simp only [<- hH] at IR
   simp only [<- hTT] at TM
   simp only [<- hP] at PT
   rw [<- hH, <- hTT, <- hP]
   have HI := hide1 IR
   have HTM := hide1 TM
   have HPT := hide1 PT
   try dsimp only at TR
   clear IR TM PT hH hTT hP hX hXB hw
   cases bH
   case true =>
    exact zq242
   cases bT
   case true =>
    exact zq242
   cases bP
   case true =>
    exact zq242
   rw [if_neg (by simp)]
   rw [show rpV ((0, 2), B) va n k = .tuple #[.agg #[.int .i64 0, .int .i64 0], .agg #[.int .i64 (xfauD 2 k), .int .i64 va]] from rfl]
   go_enter func339, ntmps339
   go_wp2_with fail
   refine (TR.out _ hwa).mono ?_
   rintro o w1 ⟨rfl, hx1, hk1⟩
   have pc0w1 : w1.cell? ⟨w.heap.size, 0, none⟩ = some (.int .i64 0) := zq17
   have pc1w1 : w1.cell? ⟨w.heap.size, 1, none⟩ = some (.int .i64 0) := zq17
   have pfw1 : ∀ o, w1.frozen? ⟨w.heap.size, o, none⟩ = false := zq18
   have pzw1 : w.heap.size < w1.heap.size := zq15
   have rc0w1 : w1.cell? ⟨w.heap.size + 1, 0, none⟩ = some (.int .i64 0) := zq17
   have rc1w1 : w1.cell? ⟨w.heap.size + 1, 1, none⟩ = some (.int .i64 0) := zq17
   have rfw1 : ∀ o, w1.frozen? ⟨w.heap.size + 1, o, none⟩ = false := zq18
   have rzw1 : w.heap.size + 1 < w1.heap.size := zq15
   have hx2 : Hid (XAt ((w1.alloc (.cells #[.int .i64 (-1), .int .i64 0] 118)).alloc (.cells #[.int .i64 (-1), .int .i64 0] 118)) mb rb (X.withB B)) := zq16
   go_wp2_with (first | (go_at_call 82; refine (x_none _ _ _).mono ?_; rintro o wn ⟨rfl, rfl⟩) | (go_at_call 261; refine (HI.out _ hx2).mono ?_; rintro o w2 ⟨rfl, rfl⟩) | (go_at_call 340; refine (HTM.out _).mono ?_; rintro o w2 ⟨rfl, rfl⟩) | (go_at_call 342; refine (HPT.out _).mono ?_; rintro o w2 ⟨rfl, rfl⟩) | (go_at_call 274; refine (HFC.out _).mono ?_; rintro o w2 ⟨rfl, rfl⟩))
   refine bodyPost_ret (v := .tuple #[.agg #[.int .i64 0, .int .i64 0], .agg #[.int .i64 (xfauD 2 k), .int .i64 va]]) zq505 rfl ⟨rfl, hx1.more (G := [w.heap.size, w.heap.size + 1]) ?_ (by simp; omega) (by simp; omega), ?_⟩
   . exact zq239
   . exact zq240
 . rw [if_neg h0]
   simp only [trV_no ((pa, f), B) va k h0] at TR
   rw [show rpV ((0, f), B) va n k = .tuple #[.agg #[.int .i64 0, .int .i64 0], .agg #[.int .i64 (xfauD f k), .int .i64 va]] by unfold rpV; dsimp only; rw [if_neg h0]]
   try dsimp only at TR
   have hn := xfau_ne f k
   obtain ⟨c, hc⟩ := zn1 (xfauD f k)
   simp only [<- hc] at TR hn |-
   clear h0 hX hw hXB hc
   go_enter func339, ntmps339
   go_wp2_with fail
   refine (TR.out _ hwa).mono ?_
   rintro o w1 ⟨rfl, hx1, hk1⟩
   have pc0w1 : w1.cell? ⟨w.heap.size, 0, none⟩ = some (.int .i64 0) := zq17
   have pc1w1 : w1.cell? ⟨w.heap.size, 1, none⟩ = some (.int .i64 0) := zq17
   have pfw1 : ∀ o, w1.frozen? ⟨w.heap.size, o, none⟩ = false := zq18
   have pzw1 : w.heap.size < w1.heap.size := zq15
   have rc0w1 : w1.cell? ⟨w.heap.size + 1, 0, none⟩ = some (.int .i64 0) := zq17
   have rc1w1 : w1.cell? ⟨w.heap.size + 1, 1, none⟩ = some (.int .i64 0) := zq17
   have rfw1 : ∀ o, w1.frozen? ⟨w.heap.size + 1, o, none⟩ = false := zq18
   have rzw1 : w.heap.size + 1 < w1.heap.size := zq15
   have _hx2 : Hid (XAt ((w1.alloc (.cells #[.int .i64 c, .int .i64 va] 118)).alloc (.cells #[.int .i64 c, .int .i64 va] 118)) mb rb (X.withB B)) := zq16
   go_upto_region 3 with (first | (go_at_call 82; refine (x_none _ _ _).mono ?_; rintro o wn ⟨rfl, rfl⟩))
   go_region
   all_goals
    go_wp2_with fail
    refine bodyPost_ret (v := .tuple #[.agg #[.int .i64 0, .int .i64 0], .agg #[.int .i64 c, .int .i64 va]]) zq505 rfl ⟨rfl, hx1.more (G := [w.heap.size, w.heap.size + 1]) ?_ (by simp; omega) (by simp; omega), ?_⟩
    . exact zq239
    . exact zq240
theorem alloc_own (w : World) (a : Array Value) (T b k : Nat) (h : b = w.heap.size) : (w.alloc (.cells a T)).cell? ⟨b, k, none⟩ = a[k]? := by subst h; simp
theorem alloc_ownf (w : World) (a : Array Value) (T b k : Nat) (h : b = w.heap.size) : (w.alloc (.cells a T)).frozen? ⟨b, k, none⟩ = false := by subst h; simp
def spV (s : Spn) (k : Nat) : Value := if s.fault = 0 then .tuple #[.agg #[.int .i64 s.pa1, .int .i64 s.n1], .agg #[.int .i64 s.pa2, .int .i64 s.n2], .agg #[.int .i64 (-1), .int .i64 0]] else .tuple #[.agg #[.int .i64 0, .int .i64 0], .agg #[.int .i64 0, .int .i64 0], .agg #[.int .i64 (xfauD s.fault k), .int .i64 s.wh]]
def one1 (n va : Nat) (t : (Nat × Nat) × BusS) : Spn × BusS := if t.1.2 = 0 then (⟨t.1.1, n, 0, 0, 0, 0⟩, t.2) else (⟨0, 0, 0, 0, t.1.2, va⟩, t.2)
def two2 (pa a n next : Nat) (t : (Nat × Nat) × BusS) : Spn × BusS := if t.1.2 = 0 then (⟨pa, a, t.1.1, n - a, 0, 0⟩, t.2) else (⟨0, 0, 0, 0, t.1.2, next⟩, t.2)
def two1 (C : CsrS) (a n va k : Nat) (t : (Nat × Nat) × BusS) : Spn × BusS := if t.1.2 = 0 then two2 t.1.1 a n ((va + a) % 4294967296) (rpD t.2 C ((va + a) % 4294967296) (n - a) k) else (⟨0, 0, 0, 0, t.1.2, va⟩, t.2)
theorem reach_one (B : BusS) (C : CsrS) (va n k : Nat) (h : n <= 4096 - va % 4096) : reachD B C va n k = one1 n va (rpD B C va n k) := by
 have hr : roomD va n = n := zq6
 unfold reachD reach1 one1 rpD rpP
 rw [hr]
 obtain ⟨T, hT⟩ := zn1 (trD B C va k)
 rw [<- hT]
 obtain ⟨⟨pa, f⟩, B'⟩ := T
 dsimp only
 by_cases h0 : f = 0
 . subst h0
   rw [if_pos rfl, if_pos rfl]
   cases takesD (pa : Nat) (n : Nat) B'.ram.length
   . rfl
   . rw [if_pos rfl, if_pos rfl, if_neg (by omega)]; rfl
 . rw [if_neg h0, if_neg h0, if_neg h0]
theorem reach_two (B : BusS) (C : CsrS) (va n k a : Nat) (ha : a = 4096 - va % 4096) (h : a < n) : reachD B C va n k = two1 C a n va k (rpD B C va a k) := by
 have hr : roomD va n = a := zq6
 unfold reachD reach1 two1 rpD rpP
 rw [hr]
 obtain ⟨T, hT⟩ := zn1 (trD B C va k)
 rw [<- hT]
 obtain ⟨⟨pa, f⟩, B'⟩ := T
 dsimp only
 by_cases h0 : f = 0
 . subst h0
   rw [if_pos rfl, if_pos rfl]
   cases takesD (pa : Nat) (a : Nat) B'.ram.length
   . rfl
   . rw [if_pos rfl, if_pos rfl, if_pos h, if_pos rfl]
     dsimp only
     unfold reach2 two2
     obtain ⟨T, hT⟩ := zn1 (trD B' C ((va + a) % 4294967296) k)
     rw [<- hT]
     obtain ⟨⟨pb, g⟩, B2⟩ := T
     dsimp only
     by_cases h1 : g = 0
     . subst h1
       rw [if_pos rfl, if_pos rfl]
       cases takesD (pb : Nat) ((n - a : Nat) : Int) B2.ram.length
       . rfl
       . rfl
     . rw [if_neg h1, if_neg h1, if_neg h1]
 . rw [if_neg h0, if_neg h0, if_neg h0]
theorem rpV_ok (t : (Nat × Nat) × BusS) (va n k : Nat) (h : t.1.2 = 0) : rpV t va n k = .tuple #[.agg #[.int .i64 t.1.1, .int .i64 n], .agg #[.int .i64 (-1), .int .i64 0]] := by unfold rpV; rw [if_pos h]
theorem rpV_no (t : (Nat × Nat) × BusS) (va n k : Nat) (h : ¬ t.1.2 = 0) : rpV t va n k = .tuple #[.agg #[.int .i64 0, .int .i64 0], .agg #[.int .i64 (xfauD t.1.2 k), .int .i64 va]] := by unfold rpV; rw [if_neg h]
theorem spV_no (f va k : Nat) (h : ¬ f = 0) : spV ⟨0, 0, 0, 0, f, va⟩ k = .tuple #[.agg #[.int .i64 0, .int .i64 0], .agg #[.int .i64 0, .int .i64 0], .agg #[.int .i64 (xfauD f k), .int .i64 va]] := by unfold spV; dsimp only; rw [if_neg h]
theorem x_reach_one (mb rb X) (hX : XOk X) (va n k : Nat) (hva : va < 4294967296) (hn1 : 1 <= n) (hn4 : n <= 4) (hkk : k = 0 \/ k = 1 \/ k = 2) (hr : n <= 4096 - va % 4096) (w) (hw : Hid (XAt w mb rb X)) :
 CX 267 #[.pointer (some ⟨mb, 0, none⟩), .int .i64 va, .int .i64 n, .int .i64 k] (spV (reachD X.b (xC X) va n k).1 k) [rb] mb rb (X.withB (reachD X.b (xC X) va n k).2) w := by
 have hlt := hw.out.lt
 have hrlt := hw.out.rlt
 have hwa : Hid (XAt (((w.alloc (.cells #[.int .i64 0, .int .i64 0] 231)).alloc (.cells #[.int .i64 0, .int .i64 0] 231)).alloc (.cells #[.int .i64 0, .int .i64 0] 118)) mb rb X) := hide1 (((hw.out.alloc _).alloc _).alloc _)
 have RP := hide1 (fun W h => x_reachPortion mb rb X hX va n k hva hn1 hn4 hkk W h)
 rw [reach_one X.b (xC X) va n k hr]
 obtain ⟨T, hT⟩ := zn1 (rpD X.b (xC X) va n k)
 simp only [<- hT] at RP
 rw [<- hT]
 clear hT
 obtain ⟨⟨pa, f⟩, B⟩ := T
 unfold one1
 dsimp only at RP |-
 have q : decide ((n : Int) <= 4096 - (va : Int) % 4096) = true := by simp; omega
 by_cases h0 : f = 0
 . subst h0
   rw [if_pos rfl]
   simp only [rpV_ok ((pa, 0), B) va n k rfl] at RP
   rw [show spV ⟨pa, n, 0, 0, 0, 0⟩ k = .tuple #[.agg #[.int .i64 pa, .int .i64 n], .agg #[.int .i64 0, .int .i64 0], .agg #[.int .i64 (-1), .int .i64 0]] from rfl]
   clear hX hw hr
   go_enter func267, ntmps267
   go_wp2_with fail
   refine (RP.out _ hwa).mono ?_
   rintro o w1 ⟨rfl, hx1, hk1⟩
   obtain ⟨pc0w1, pc1w1, pfw1, pzw1, pzw11, pnw11, pzw12, pnw12, pzw13, pnw13, pzw14, pnw14⟩ : Zc2 w1 w.heap.size 0 0 := zq150
   obtain ⟨qc0w1, qc1w1, qfw1, qzw1, qzw11, qnw11, qzw12, qnw12, qzw13, qnw13, qzw14, qnw14⟩ : Zc2 w1 (w.heap.size + 1) 0 0 := zq151
   obtain ⟨rc0w1, rc1w1, rfw1, rzw1, rzw11, rnw11, rzw12, rnw12, rzw13, rnw13, rzw14, rnw14⟩ : Zc2 w1 (w.heap.size + 1 + 1) 0 0 := zq152
   go_upto_region 4 with fail
   go_region
   all_goals
    go_wp2_with fail
    refine bodyPost_ret (v := .tuple #[.agg #[.int .i64 pa, .int .i64 n], .agg #[.int .i64 0, .int .i64 0], .agg #[.int .i64 (-1), .int .i64 0]]) zq506 rfl ⟨rfl, hx1.more (G := [w.heap.size, w.heap.size + 1, w.heap.size + 1 + 1]) ?_ (by simp; omega) (by simp; omega), ?_⟩
    . exact zq239
    . exact zq240
 . rw [if_neg h0]
   simp only [rpV_no ((pa, f), B) va n k h0] at RP
   rw [spV_no f va k h0]
   clear hX hw hr h0
   go_enter func267, ntmps267
   go_wp2_with fail
   refine (RP.out _ hwa).mono ?_
   rintro o w1 ⟨rfl, hx1, hk1⟩
   obtain ⟨pc0w1, pc1w1, pfw1, pzw1, pzw11, pnw11, pzw12, pnw12, pzw13, pnw13, pzw14, pnw14⟩ : Zc2 w1 w.heap.size 0 0 := zq150
   obtain ⟨qc0w1, qc1w1, qfw1, qzw1, qzw11, qnw11, qzw12, qnw12, qzw13, qnw13, qzw14, qnw14⟩ : Zc2 w1 (w.heap.size + 1) 0 0 := zq151
   obtain ⟨rc0w1, rc1w1, rfw1, rzw1, rzw11, rnw11, rzw12, rnw12, rzw13, rnw13, rzw14, rnw14⟩ : Zc2 w1 (w.heap.size + 1 + 1) 0 0 := zq152
   go_upto_region 4 with fail
   go_region
   all_goals
    go_wp2_with fail
    refine bodyPost_ret (v := .tuple #[.agg #[.int .i64 0, .int .i64 0], .agg #[.int .i64 0, .int .i64 0], .agg #[.int .i64 (xfauD f k), .int .i64 va]]) zq506 rfl ⟨rfl, hx1.more (G := [w.heap.size, w.heap.size + 1, w.heap.size + 1 + 1]) ?_ (by simp; omega) (by simp; omega), ?_⟩
    . exact zq239
    . exact zq240
theorem x_reach_two (mb rb X) (hX : XOk X) (va n k : Nat) (hva : va < 4294967296) (hn1 : 1 <= n) (hn4 : n <= 4) (hkk : k = 0 \/ k = 1 \/ k = 2) (hr : 4096 - va % 4096 < n) (w) (hw : Hid (XAt w mb rb X)) :
 CX 267 #[.pointer (some ⟨mb, 0, none⟩), .int .i64 va, .int .i64 n, .int .i64 k] (spV (reachD X.b (xC X) va n k).1 k) [rb] mb rb (X.withB (reachD X.b (xC X) va n k).2) w := by
 have hlt := hw.out.lt
 have hrlt := hw.out.rlt
 have hwa : Hid (XAt (((w.alloc (.cells #[.int .i64 0, .int .i64 0] 231)).alloc (.cells #[.int .i64 0, .int .i64 0] 231)).alloc (.cells #[.int .i64 0, .int .i64 0] 118)) mb rb X) := hide1 (((hw.out.alloc _).alloc _).alloc _)
 obtain ⟨a, ha⟩ := zn1 (4096 - va % 4096)
 rw [<- ha] at hr
 have ha1 : 1 <= a := by omega
 have RP := hide1 (fun W h => x_reachPortion mb rb X hX va a k hva ha1 (by omega) hkk W h)
 rw [reach_two X.b (xC X) va n k a ha hr]
 have hok := rp_ok hX.b (xC X) va a k
 obtain ⟨T, hT⟩ := zn1 (rpD X.b (xC X) va a k)
 simp only [<- hT] at RP
 rw [<- hT] at hok |-
 clear hT
 obtain ⟨⟨pa, f⟩, B⟩ := T
 have hXB := XS.okB hX hok
 unfold two1
 dsimp only at RP hok hXB |-
 have ea : 4096 - (va : Int) % 4096 = (a : Int) := by omega
 have q : decide ((n : Int) <= (a : Int)) = false := by simp; omega
 have q' : decide (n <= a) = false := by simp; omega
 by_cases h0 : f = 0
 . subst h0
   rw [if_pos rfl]
   simp only [rpV_ok ((pa, 0), B) va a k rfl] at RP
   have RQ := hide1 (fun W h => x_reachPortion mb rb (X.withB B) hXB ((va + a) % 4294967296) (n - a) k (by omega) (by omega) (by omega) hkk W h)
   have eC : xC (X.withB B) = xC X := rfl
   have eb : (X.withB B).b = B := rfl
   simp only [eC, eb] at RQ
   have WD : Hid (∀ W, CS 135 #[.int .i64 ((va : Int) + (a : Int))] (.int .i64 ((va + a) % 4294967296 : Nat)) W) := hide1 (fun W => by have := x_word ((va : Int) + (a : Int)) W; rw [show wordN ((va : Int) + (a : Int)) = (va + a) % 4294967296 by unfold wordN; omega] at this; exact this)
   have en : (n : Int) - (a : Int) = ((n - a : Nat) : Int) := by omega
   obtain ⟨nx, hnx⟩ := zn1 ((va + a) % 4294967296)
   obtain ⟨d, hd⟩ := zn1 (n - a)
   have hdl : d <= 4 := by omega
   simp only [<- hnx, <- hd] at RQ WD en |-
   obtain ⟨T, hT⟩ := zn1 (rpD B (xC X) nx d k)
   simp only [<- hT] at RQ
   rw [<- hT]
   clear hT hnx
   obtain ⟨⟨pb, g⟩, B2⟩ := T
   have hBB : (X.withB B).withB B2 = X.withB B2 := rfl
   simp only [hBB] at RQ
   unfold two2
   dsimp only
   rw [<- hd]
   by_cases h1 : g = 0
   . subst h1
     rw [if_pos rfl]
     simp only [rpV_ok ((pb, 0), B2) nx d k rfl] at RQ
     rw [show spV ⟨pa, a, pb, d, 0, 0⟩ k = .tuple #[.agg #[.int .i64 pa, .int .i64 a], .agg #[.int .i64 pb, .int .i64 d], .agg #[.int .i64 (-1), .int .i64 0]] from rfl]
     clear hX hw hr hXB hok ha hd hn1 hn4 ha1
     go_enter func267, ntmps267
     go_wp2_with fail
     refine (RP.out _ hwa).mono ?_
     rintro o w1 ⟨rfl, hx1, hk1⟩
     obtain ⟨pc0w1, pc1w1, pfw1, pzw1, pzw11, pnw11, pzw12, pnw12, pzw13, pnw13, pzw14, pnw14⟩ : Zc2 w1 w.heap.size 0 0 := zq150
     obtain ⟨qc0w1, qc1w1, qfw1, qzw1, qzw11, qnw11, qzw12, qnw12, qzw13, qnw13, qzw14, qnw14⟩ : Zc2 w1 (w.heap.size + 1) 0 0 := zq151
     obtain ⟨rc0w1, rc1w1, rfw1, rzw1, rzw11, rnw11, rzw12, rnw12, rzw13, rnw13, rzw14, rnw14⟩ : Zc2 w1 (w.heap.size + 1 + 1) 0 0 := zq152
     have hx2 : Hid (XAt (((w1.alloc (.cells #[.int .i64 pa, .int .i64 a] 231)).alloc (.cells #[.int .i64 (-1), .int .i64 0] 118)).alloc (.cells #[.int .i64 (-1), .int .i64 0] 118)) mb rb (X.withB B)) := hide1 (((hx1.alloc _).alloc _).alloc _)
     go_wp2_with (first | (go_at_call 82; refine (x_none _ _ _).mono ?_; rintro o wn ⟨rfl, rfl⟩) | (go_at_call 135; refine (WD.out _).mono ?_; rintro o w2 ⟨rfl, rfl⟩))
     refine (RQ.out _ hx2).mono ?_
     rintro o w2 ⟨rfl, hx3, hk2⟩
     obtain ⟨pc0w2, pc1w2, pfw2, pzw2, pzw21, pnw21, pzw22, pnw22, pzw23, pnw23, pzw24, pnw24⟩ : Zc2 w2 w.heap.size 0 0 := zq153
     obtain ⟨qc0w2, qc1w2, qfw2, qzw2, qzw21, qnw21, qzw22, qnw22, qzw23, qnw23, qzw24, qnw24⟩ : Zc2 w2 (w.heap.size + 1) 0 0 := zq153
     obtain ⟨rc0w2, rc1w2, rfw2, rzw2, rzw21, rnw21, rzw22, rnw22, rzw23, rnw23, rzw24, rnw24⟩ : Zc2 w2 (w.heap.size + 1 + 1) 0 0 := zq153
     obtain ⟨sc0w2, sc1w2, sfw2, szw2, szw21, snw21, szw22, snw22, szw23, snw23, szw24, snw24⟩ : Zc2 w2 w1.heap.size pa a := zq154
     obtain ⟨mc0w2, mc1w2, mfw2, mzw2, mzw21, mnw21, mzw22, mnw22, mzw23, mnw23, mzw24, mnw24⟩ : Zc2 w2 (w1.heap.size + 1) (-1) 0 := zq155
     go_upto_region 11 with (first | (go_at_call 82; refine (x_none _ _ _).mono ?_; rintro o wn ⟨rfl, rfl⟩))
     go_region
     all_goals
      go_wp2_with fail
      refine bodyPost_ret (v := .tuple #[.agg #[.int .i64 pa, .int .i64 a], .agg #[.int .i64 pb, .int .i64 d], .agg #[.int .i64 (-1), .int .i64 0]]) zq507 rfl ⟨rfl, hx3.more (G := [w.heap.size, w.heap.size + 1, w.heap.size + 1 + 1, w1.heap.size + 1]) ?_ (by simp; omega) (by simp; omega), ?_⟩
      . exact zq239
      . exact zq241
   . rw [if_neg h1]
     simp only [rpV_no ((pb, g), B2) nx d k h1] at RQ
     rw [spV_no g nx k h1]
     have hn := xfau_ne g k
     obtain ⟨c, hc⟩ := zn1 (xfauD g k)
     have hc' : xfauD g k = c := hc.symm
     try dsimp only at RQ
     simp only [hc'] at RQ
     rw [<- hc] at hn |-
     clear hX hw hr hXB hok ha hd hn1 hn4 ha1 h1 hc hc'
     go_enter func267, ntmps267
     go_wp2_with fail
     refine (RP.out _ hwa).mono ?_
     rintro o w1 ⟨rfl, hx1, hk1⟩
     obtain ⟨pc0w1, pc1w1, pfw1, pzw1, pzw11, pnw11, pzw12, pnw12, pzw13, pnw13, pzw14, pnw14⟩ : Zc2 w1 w.heap.size 0 0 := zq150
     obtain ⟨qc0w1, qc1w1, qfw1, qzw1, qzw11, qnw11, qzw12, qnw12, qzw13, qnw13, qzw14, qnw14⟩ : Zc2 w1 (w.heap.size + 1) 0 0 := zq151
     obtain ⟨rc0w1, rc1w1, rfw1, rzw1, rzw11, rnw11, rzw12, rnw12, rzw13, rnw13, rzw14, rnw14⟩ : Zc2 w1 (w.heap.size + 1 + 1) 0 0 := zq152
     have hx2 : Hid (XAt (((w1.alloc (.cells #[.int .i64 pa, .int .i64 a] 231)).alloc (.cells #[.int .i64 (-1), .int .i64 0] 118)).alloc (.cells #[.int .i64 (-1), .int .i64 0] 118)) mb rb (X.withB B)) := hide1 (((hx1.alloc _).alloc _).alloc _)
     go_wp2_with (first | (go_at_call 82; refine (x_none _ _ _).mono ?_; rintro o wn ⟨rfl, rfl⟩) | (go_at_call 135; refine (WD.out _).mono ?_; rintro o w2 ⟨rfl, rfl⟩))
     refine (RQ.out _ hx2).mono ?_
     rintro o w2 ⟨rfl, hx3, hk2⟩
     obtain ⟨pc0w2, pc1w2, pfw2, pzw2, pzw21, pnw21, pzw22, pnw22, pzw23, pnw23, pzw24, pnw24⟩ : Zc2 w2 w.heap.size 0 0 := zq153
     obtain ⟨qc0w2, qc1w2, qfw2, qzw2, qzw21, qnw21, qzw22, qnw22, qzw23, qnw23, qzw24, qnw24⟩ : Zc2 w2 (w.heap.size + 1) 0 0 := zq153
     obtain ⟨rc0w2, rc1w2, rfw2, rzw2, rzw21, rnw21, rzw22, rnw22, rzw23, rnw23, rzw24, rnw24⟩ : Zc2 w2 (w.heap.size + 1 + 1) 0 0 := zq153
     obtain ⟨sc0w2, sc1w2, sfw2, szw2, szw21, snw21, szw22, snw22, szw23, snw23, szw24, snw24⟩ : Zc2 w2 w1.heap.size pa a := zq154
     obtain ⟨mc0w2, mc1w2, mfw2, mzw2, mzw21, mnw21, mzw22, mnw22, mzw23, mnw23, mzw24, mnw24⟩ : Zc2 w2 (w1.heap.size + 1) (-1) 0 := zq155
     go_upto_region 10 with (first | (go_at_call 82; refine (x_none _ _ _).mono ?_; rintro o wn ⟨rfl, rfl⟩))
     go_region
     all_goals
      go_wp2_with fail
      refine bodyPost_ret (v := .tuple #[.agg #[.int .i64 0, .int .i64 0], .agg #[.int .i64 0, .int .i64 0], .agg #[.int .i64 c, .int .i64 nx]]) zq507 rfl ⟨rfl, hx3.more (G := [w.heap.size, w.heap.size + 1, w.heap.size + 1 + 1, w1.heap.size + 1]) ?_ (by simp; omega) (by simp; omega), ?_⟩
      . exact zq239
      . exact zq241
 . rw [if_neg h0]
   simp only [rpV_no ((pa, f), B) va a k h0] at RP
   rw [spV_no f va k h0]
   have hn := xfau_ne f k
   obtain ⟨c, hc⟩ := zn1 (xfauD f k)
   have hc' : xfauD f k = c := hc.symm
   try dsimp only at RP
   simp only [hc'] at RP
   rw [<- hc] at hn |-
   clear hX hw hr hXB hok ha hn1 hn4 ha1 h0 hc hc'
   go_enter func267, ntmps267
   go_wp2_with fail
   refine (RP.out _ hwa).mono ?_
   rintro o w1 ⟨rfl, hx1, hk1⟩
   obtain ⟨pc0w1, pc1w1, pfw1, pzw1, pzw11, pnw11, pzw12, pnw12, pzw13, pnw13, pzw14, pnw14⟩ : Zc2 w1 w.heap.size 0 0 := zq150
   obtain ⟨qc0w1, qc1w1, qfw1, qzw1, qzw11, qnw11, qzw12, qnw12, qzw13, qnw13, qzw14, qnw14⟩ : Zc2 w1 (w.heap.size + 1) 0 0 := zq151
   obtain ⟨rc0w1, rc1w1, rfw1, rzw1, rzw11, rnw11, rzw12, rnw12, rzw13, rnw13, rzw14, rnw14⟩ : Zc2 w1 (w.heap.size + 1 + 1) 0 0 := zq152
   go_upto_region 7 with (first | (go_at_call 82; refine (x_none _ _ _).mono ?_; rintro o wn ⟨rfl, rfl⟩))
   go_region
   all_goals
    go_wp2_with fail
    refine bodyPost_ret (v := .tuple #[.agg #[.int .i64 0, .int .i64 0], .agg #[.int .i64 0, .int .i64 0], .agg #[.int .i64 c, .int .i64 va]]) zq506 rfl ⟨rfl, hx1.more (G := [w.heap.size, w.heap.size + 1, w.heap.size + 1 + 1]) ?_ (by simp; omega) (by simp; omega), ?_⟩
    . exact zq239
    . exact zq240
theorem x_reach (mb rb X) (hX : XOk X) (va n k : Nat) (hva : va < 4294967296) (hn1 : 1 <= n) (hn4 : n <= 4) (hkk : k = 0 \/ k = 1 \/ k = 2) (w) (hw : Hid (XAt w mb rb X)) :
 CX 267 #[.pointer (some ⟨mb, 0, none⟩), .int .i64 va, .int .i64 n, .int .i64 k] (spV (reachD X.b (xC X) va n k).1 k) [rb] mb rb (X.withB (reachD X.b (xC X) va n k).2) w := by
 by_cases hr : n <= 4096 - va % 4096
 . exact x_reach_one mb rb X hX va n k hva hn1 hn4 hkk hr w hw
 . exact x_reach_two mb rb X hX va n k hva hn1 hn4 hkk (by omega) w hw
theorem Kept.boxI {W w1 : World} (hb : Kept [] W w1) (b : Nat) : (∀ o, b < W.heap.size -> w1.cell? ⟨b, o, none⟩ = W.cell? ⟨b, o, none⟩) /\ (∀ o, b < W.heap.size -> w1.frozen? ⟨b, o, none⟩ = W.frozen? ⟨b, o, none⟩) :=
 ⟨fun o h => hb.cell (p := ⟨b, o, none⟩) h (by simp), fun o h => hb.frozen (p := ⟨b, o, none⟩) h (by simp)⟩
theorem tm_holds {pa n : Int} {L : Nat} (h : tmB pa n = true) : holdsD pa n L = false /\ takesD pa n L = true := by
 have hh : holdsD pa n L = false := by unfold tmB at h; unfold holdsD; simp at h |-; omega
 exact ⟨hh, by rw [takes_or, h]; simp⟩
theorem pt_holds {pa n : Int} {L : Nat} (h : ptB pa n = true) : holdsD pa n L = false /\ takesD pa n L = true /\ tmB pa n = false := by
 have hh : holdsD pa n L = false := by unfold ptB at h; unfold holdsD; simp at h |-; omega
 have ht : tmB pa n = false := by unfold ptB at h; unfold tmB; simp at h |-; omega
 exact ⟨hh, by rw [takes_or, h]; simp, ht⟩
theorem read_tm (B : BusS) (pa n : Int) (h : tmB pa n = true) : readD B pa n = (trdD B (pa - 33554432), B) := by
 obtain ⟨h1, h2⟩ := tm_holds (L := B.ram.length) h
 unfold readD
 exact zq243
theorem read_pt (B : BusS) (pa n : Int) (h : ptB pa n = true) : readD B pa n = prdB B (pa - 268435456) := by
 obtain ⟨h1, h2, -⟩ := pt_holds (L := B.ram.length) h
 unfold readD
 rw [h1, h2, if_neg (by simp), if_pos rfl]
 unfold ptB at h
 exact zq244
theorem XAt.setO {w : World} {mb rb : Nat} {X : XS} {p : Addr} (h : XAt w mb rb X) (h1 : mb ≠ p.block) (h2 : rb ≠ p.block) (v : Value) : XAt (w.setCell p v) mb rb X := h.more (G := [p.block]) ((Kept.refl _ _).setCell (.inl (by simp)) _) (by simpa using h1) (by simpa using h2)
theorem Kept.setM {mb : Nat} {G : List Nat} {a w : World} (h : Kept (mb :: G) a w) (k : Nat) (v : Value) : Kept (mb :: G) a (w.setCell ⟨mb, k, none⟩ v) := h.setCell (.inl (by simp)) v
structure SameBut5 (A B : BusS) : Prop where
 ram : B.ram = A.ram
 msip : B.msip = A.msip
 time : B.time = A.time
 timeh : B.timeh = A.timeh
 cmp : B.cmp = A.cmp
 cmph : B.cmph = A.cmph
theorem XAt.setPort {w mb rb X} (h : XAt w mb rb X) (B : BusS) (hs : SameBut5 X.b B) : XAt (((((w.setCell ⟨mb, 66, none⟩ (.int .i64 B.enable)).setCell ⟨mb, 67, none⟩ (.int .i64 B.scratch)).setCell ⟨mb, 68, none⟩ (.bool B.lost)).setCell ⟨mb, 69, none⟩ (.string B.rx)).setCell ⟨mb, 70, none⟩ (.string B.tx)) mb rb (X.withB B) := by
 have e : X.withB B = { X with b := { X.b with enable := B.enable, scratch := B.scratch, lost := B.lost, rx := B.rx, tx := B.tx } } := by
  obtain ⟨a, b, c, d, e, f⟩ := hs
  unfold XS.withB
  cases X with | mk b' c x pc mo wa re rs => cases b' with | mk a1 a2 a3 a4 a5 a6 a7 a8 a9 a10 a11 => cases B with | mk b1 b2 b3 b4 b5 b6 b7 b8 b9 b10 b11 => simp_all
 rw [e]
 exact ((((h.set (X' := { X with b := { X.b with enable := B.enable } }) 66 _ rfl rfl (by omega)).set (X' := { X with b := { X.b with enable := B.enable, scratch := B.scratch } }) 67 _ rfl rfl (by omega)).set (X' := { X with b := { X.b with enable := B.enable, scratch := B.scratch, lost := B.lost } }) 68 _ rfl rfl (by omega)).set (X' := { X with b := { X.b with enable := B.enable, scratch := B.scratch, lost := B.lost, rx := B.rx } }) 69 _ rfl rfl (by omega)).set 70 _ rfl rfl (by omega)
structure SameBut6 (A B : BusS) : Prop where
 ram : B.ram = A.ram
 enable : B.enable = A.enable
 scratch : B.scratch = A.scratch
 lost : B.lost = A.lost
 rx : B.rx = A.rx
 tx : B.tx = A.tx
theorem XAt.setTimer {w mb rb X} (h : XAt w mb rb X) (B : BusS) (hs : SameBut6 X.b B) : XAt (((((w.setCell ⟨mb, 61, none⟩ (.int .i64 B.msip)).setCell ⟨mb, 62, none⟩ (.int .i64 B.time)).setCell ⟨mb, 63, none⟩ (.int .i64 B.timeh)).setCell ⟨mb, 64, none⟩ (.int .i64 B.cmp)).setCell ⟨mb, 65, none⟩ (.int .i64 B.cmph)) mb rb (X.withB B) := by
 have e : X.withB B = { X with b := { X.b with msip := B.msip, time := B.time, timeh := B.timeh, cmp := B.cmp, cmph := B.cmph } } := by
  obtain ⟨a, b, c, d, e, f⟩ := hs
  unfold XS.withB
  cases X with | mk b' c x pc mo wa re rs => cases b' with | mk a1 a2 a3 a4 a5 a6 a7 a8 a9 a10 a11 => cases B with | mk b1 b2 b3 b4 b5 b6 b7 b8 b9 b10 b11 => simp_all
 rw [e]
 exact ((((h.set (X' := { X with b := { X.b with msip := B.msip } }) 61 _ rfl rfl (by omega)).set (X' := { X with b := { X.b with msip := B.msip, time := B.time } }) 62 _ rfl rfl (by omega)).set (X' := { X with b := { X.b with msip := B.msip, time := B.time, timeh := B.timeh } }) 63 _ rfl rfl (by omega)).set (X' := { X with b := { X.b with msip := B.msip, time := B.time, timeh := B.timeh, cmp := B.cmp } }) 64 _ rfl rfl (by omega)).set 65 _ rfl rfl (by omega)
def porV (pa n : Nat) : Value := .agg #[.int .i64 pa, .int .i64 n]
theorem x_read_0 (mb pa : Nat) (w : World) :
 CK 269 #[.pointer (some ⟨mb, 0, none⟩), porV pa 0] (.int .i64 0) w := by
 unfold porV
 go_enter func269, ntmps269
 exact zq245
theorem x_read_t (mb rb : Nat) (X : XS) (pa n : Nat) (hpa : pa < 17184063488) (hn : 1 <= n) (ht : tmB pa n = true) (w) (hw : Hid (XAt w mb rb X)) :
 CK 269 #[.pointer (some ⟨mb, 0, none⟩), porV pa n] (.int .i64 (readD X.b pa n).1) w := by
 have hlt := hw.out.lt
 have hlt' : ¬ mb = w.heap.size := by omega
 have c61 := hw.out.c61
 have c62 := hw.out.c62
 have c63 := hw.out.c63
 have c64 := hw.out.c64
 have c65 := hw.out.c65
 rw [read_tm X.b pa n ht]
 have TM : Hid (∀ W, CS 340 #[.int .i64 pa, .int .i64 n] (.bool true) W) := zq35
 have wr : IntKind.i64.wrap ((pa : Int) - 33554432) = (pa : Int) - 33554432 := zq9
 have RD := fun W => hide1 (x_tread X.b ((pa : Int) - 33554432) W)
 obtain ⟨v, hv⟩ := zn1 (trdD X.b ((pa : Int) - 33554432))
 simp only [<- hv] at RD |-
 have q : ((n : Int) == 0) = false := by simp; omega
 have q' : (n == 0) = false := by simp; omega
 unfold tmrA at RD
 clear hv ht hw
 unfold porV
 go_enter func269, ntmps269
 go_upto_region 4 with (go_at_call 340; refine (TM.out _).mono ?_; rintro o w2 ⟨rfl, rfl⟩)
 go_region_with (go_at_call 341; refine (RD _).out.mono ?_; rintro o w1 ⟨rfl, hk1⟩)
 all_goals
  go_wp2_with fail
  go_ret
  refine ⟨rfl, ?_⟩
  repeat (first | (with_reducible exact Kept.refl _ _) | (with_reducible refine Kept.setCell ?_ (Or.inr zq491) _) | (with_reducible refine Kept.drew ?_) | (with_reducible refine Kept.alloc ?_ _) | (with_reducible refine Kept.trans ?_ (hk1.mono (by simp))))
theorem x_read_p (mb rb : Nat) (X : XS) (hE : X.b.enable < 8) (pa n : Nat) (hpa : pa < 17184063488) (hn : 1 <= n) (ht : ptB pa n = true) (w) (hw : Hid (XAt w mb rb X)) :
 CX 269 #[.pointer (some ⟨mb, 0, none⟩), porV pa n] (.int .i64 (readD X.b pa n).1) [mb] mb rb (X.withB (readD X.b pa n).2) w := by
 have hlt := hw.out.lt
 have hlt' : ¬ mb = w.heap.size := by omega
 have c66 := hw.out.c66
 have c67 := hw.out.c67
 have c68 := hw.out.c68
 have c69 := hw.out.c69
 have c70 := hw.out.c70
 have hfr := hw.out.fro
 have hrlt := hw.out.rlt
 have htm := (pt_holds (L := 0) ht).2.2
 rw [read_pt X.b pa n ht]
 have TM : Hid (∀ W, CS 340 #[.int .i64 pa, .int .i64 n] (.bool false) W) := zq36
 have PT : Hid (∀ W, CS 342 #[.int .i64 pa, .int .i64 n] (.bool true) W) := zq37
 have wr : IntKind.i64.wrap ((pa : Int) - 268435456) = (pa : Int) - 268435456 := zq9
 have RD := fun W => hide1 (x_pread X.b hE ((pa : Int) - 268435456) W)
 have hbr : SameBut5 X.b (prdB X.b ((pa : Int) - 268435456)).2 := by
  unfold prdB
  repeat' split
  all_goals exact ⟨rfl, rfl, rfl, rfl, rfl, rfl⟩
 obtain ⟨T, hT⟩ := zn1 (prdB X.b ((pa : Int) - 268435456))
 simp only [<- hT] at RD hbr |-
 obtain ⟨v, B⟩ := T
 dsimp only at RD hbr |-
 have q : ((n : Int) == 0) = false := by simp; omega
 have q' : (n == 0) = false := by simp; omega
 unfold prtA at RD
 have HBR := hide1 hbr
 clear hT ht htm hbr
 unfold porV
 go_enter func269, ntmps269
 go_upto_region 6 with (first | (go_at_call 340; refine (TM.out _).mono ?_; rintro o w2 ⟨rfl, rfl⟩) | (go_at_call 342; refine (PT.out _).mono ?_; rintro o w2 ⟨rfl, rfl⟩))
 go_region_with (go_at_call 343; refine (RD _).out.mono ?_; rintro o w1 ⟨rfl, hk1⟩; obtain ⟨k1, g1⟩ := hk1.boxI (w.heap.size + 1))
 all_goals
  have hx1 : XAt w1 mb rb X := zq38
  have d66 := hx1.c66
  have d67 := hx1.c67
  have d68 := hx1.c68
  have d69 := hx1.c69
  have d70 := hx1.c70
  have hfr1 := hx1.fro
  have hlt1 := hx1.lt
  have hlt2 : mb < w1.heap.size + 1 := by omega
  have hne1 : ¬ mb = w1.heap.size := by omega
  have hne2 : ¬ mb = w.heap.size + 1 := by omega
  go_wp2_with fail
  go_ret
  refine ⟨rfl, ?_, ?_⟩
  . repeat (first | (with_reducible exact hx1) | (with_reducible refine XAt.alloc ?_ _) | (with_reducible refine XAt.drew ?_) | (with_reducible refine XAt.setPort ?_ B HBR.out) | (with_reducible refine XAt.setO ?_ zq491 zq491 _))
  . exact zq246
theorem x_read_r (mb rb : Nat) (X : XS) (hram : X.b.ram.length <= 65536) (pa n : Nat) (hpa : pa < 17184063488) (hn : 1 <= n) (hn4 : n <= 4) (hh : holdsD pa n X.b.ram.length = true) (w) (hw : Hid (XAt w mb rb X)) :
 CK 269 #[.pointer (some ⟨mb, 0, none⟩), porV pa n] (.int .i64 (readD X.b pa n).1) w := by
 have hlt := hw.out.lt
 have hlt' : ¬ mb = w.heap.size := by omega
 have ht : tmB pa n = false := by
  cases h : tmB pa n with
  | false => rfl
  | true => rw [(tm_holds (L := X.b.ram.length) h).1] at hh; cases hh
 have hp : ptB pa n = false := by
  cases h : ptB pa n with
  | false => rfl
  | true => rw [(pt_holds (L := X.b.ram.length) h).1] at hh; cases hh
 have er : readD X.b pa n = (rdRam X.b (((pa : Int) - 2147483648).toNat) n, X.b) := by unfold readD; rw [if_pos hh]; simp
 rw [er]
 have hr : 2147483648 <= pa /\ pa - 2147483648 + n <= X.b.ram.length := by
  have h := hh
  unfold holdsD at h; simp at h; omega
 obtain ⟨p, hp2⟩ := zn1 (((pa : Int) - 2147483648).toNat)
 rw [<- hp2]
 have TM : Hid (∀ W, CS 340 #[.int .i64 pa, .int .i64 n] (.bool false) W) := zq39
 have PT : Hid (∀ W, CS 342 #[.int .i64 pa, .int .i64 n] (.bool false) W) := zq40
 have RN := hide1 (fun W h => x_ramNumber_yes mb rb X hram pa p n (by omega) hn hn4 (by omega) W h)
 have hwa : Hid (XAt (w.alloc (.cells #[.int .i64 pa, .int .i64 n] 231)) mb rb X) := zq10
 obtain ⟨v, hv⟩ := zn1 (rdRam X.b p n)
 simp only [<- hv] at RN |-
 have q : ((n : Int) == 0) = false := by simp; omega
 have q' : (n == 0) = false := by simp; omega
 clear hv ht hp hp2 hr er hh
 unfold porV
 go_enter func269, ntmps269
 go_wp2_with (first | (go_at_call 340; refine (TM.out _).mono ?_; rintro o w2 ⟨rfl, rfl⟩) | (go_at_call 342; refine (PT.out _).mono ?_; rintro o w2 ⟨rfl, rfl⟩) | (go_at_call 262; refine (RN.out _ hwa).mono ?_; rintro o w2 ⟨rfl, rfl⟩))
 exact zq247
theorem x_read (mb rb : Nat) (X : XS) (hB : BusOk X.b) (pa n : Nat) (hpa : pa < 17184063488) (hn : 1 <= n) (hn4 : n <= 4) (ht : takesD pa n X.b.ram.length = true) (w) (hw : Hid (XAt w mb rb X)) :
 CX 269 #[.pointer (some ⟨mb, 0, none⟩), porV pa n] (.int .i64 (readD X.b pa n).1) [mb, rb] mb rb (X.withB (readD X.b pa n).2) w := by
 rw [takes_or] at ht
 cases hh : holdsD pa n X.b.ram.length with
 | true =>
  have er : (readD X.b pa n).2 = X.b := by unfold readD; rw [if_pos hh]
  rw [er]
  refine (x_read_r mb rb X hB.ram pa n hpa hn hn4 hh w hw).mono ?_
  rintro o w1 ⟨rfl, hk⟩
  exact ⟨rfl, hw.out.kept hk, hk.mono (by simp)⟩
 | false =>
  cases htm : tmB pa n with
  | true =>
   have er : (readD X.b pa n).2 = X.b := by rw [read_tm X.b pa n htm]
   rw [er]
   refine (x_read_t mb rb X pa n hpa hn htm w hw).mono ?_
   rintro o w1 ⟨rfl, hk⟩
   exact ⟨rfl, hw.out.kept hk, hk.mono (by simp)⟩
  | false =>
   rw [hh, htm] at ht
   refine (x_read_p mb rb X hB.enable pa n hpa hn (by simpa using ht) w hw).mono ?_
   rintro o w1 ⟨rfl, hx, hk⟩
   exact ⟨rfl, hx, hk.mono (by simp)⟩
theorem leL_mod (v : Nat) : leL ((v % 256 : Nat) : Int) 1 = leL (v : Int) 1 := by
 simp [leL]
theorem write_tm (B : BusS) (pa n : Int) (v : Nat) (h : tmB pa n = true) : writeD B pa n v = twrB B (pa - 33554432) v := by
 obtain ⟨h1, h2⟩ := tm_holds (L := B.ram.length) h
 unfold writeD
 exact zq243
theorem write_pt (B : BusS) (pa n : Int) (v : Nat) (h : ptB pa n = true) : writeD B pa n v = pwrB B (pa - 268435456) (v % 256) := by
 obtain ⟨h1, h2, -⟩ := pt_holds (L := B.ram.length) h
 unfold writeD
 rw [h1, h2, if_neg (by simp), if_pos rfl]
 have e : v % 256 % 8 = v % 8 := by omega
 unfold ptB at h
 simp at h
 obtain ⟨_, h | h | h | h | h⟩ := h <;> subst h
 . show (if B.tx.size < 8 then { B with tx := B.tx ++ strOfNums (leL v 1) } else B) = (if B.tx.size < 8 then { B with tx := B.tx ++ strOfNums (leL ((v % 256 : Nat) : Int) 1) } else B)
   rw [leL_mod]
 . show { B with enable := v % 8 } = { B with enable := v % 256 % 8 }
   rw [e]
 . rfl
 . rfl
 . rfl
theorem x_write_0 (mb pa : Nat) (v : Int) (w : World) :
 CK 271 #[.pointer (some ⟨mb, 0, none⟩), porV pa 0, .int .i64 v] (.tuple #[]) w := by
 unfold porV
 go_enter func271, ntmps271
 go_wp2_with fail
 refine bodyPost_ret (results_none rfl _ _ _) rfl ?_
 exact zq248
theorem x_write_t (mb rb : Nat) (X : XS) (pa n v : Nat) (hpa : pa < 17184063488) (hn : 1 <= n) (hv : v < 4294967296) (ht : tmB pa n = true) (w) (hw : Hid (XAt w mb rb X)) :
 CX 271 #[.pointer (some ⟨mb, 0, none⟩), porV pa n, .int .i64 v] (.tuple #[]) [mb] mb rb (X.withB (writeD X.b pa n v)) w := by
 have hlt := hw.out.lt
 have hrlt := hw.out.rlt
 have hlt' : ¬ mb = w.heap.size := by omega
 have hfr := hw.out.fro
 have c61 := hw.out.c61
 have c62 := hw.out.c62
 have c63 := hw.out.c63
 have c64 := hw.out.c64
 have c65 := hw.out.c65
 rw [write_tm X.b pa n v ht]
 have TM : Hid (∀ W, CS 340 #[.int .i64 pa, .int .i64 n] (.bool true) W) := zq35
 have wr : IntKind.i64.wrap ((pa : Int) - 33554432) = (pa : Int) - 33554432 := zq9
 have RD := fun W => hide1 (x_twritten X.b ((pa : Int) - 33554432) v W)
 have WD : Hid (∀ W, CS 135 #[.int .i64 v] (.int .i64 v) W) := hide1 (fun W => by have := x_word v W; rw [wordN_of v hv] at this; exact this)
 have hbr : SameBut6 X.b (twrB X.b ((pa : Int) - 33554432) v) := by
  unfold twrB
  repeat' split
  all_goals exact ⟨rfl, rfl, rfl, rfl, rfl, rfl⟩
 obtain ⟨B, hB⟩ := zn1 (twrB X.b ((pa : Int) - 33554432) v)
 simp only [<- hB] at RD hbr |-
 have q : ((n : Int) == 0) = false := by simp; omega
 have q' : (n == 0) = false := by simp; omega
 unfold tmrA at RD
 have HBR := hide1 hbr
 clear hB ht hbr
 unfold porV
 go_enter func271, ntmps271
 go_upto_region 4 with (go_at_call 340; refine (TM.out _).mono ?_; rintro o w2 ⟨rfl, rfl⟩)
 go_region_with (first | (go_at_call 135; refine (WD.out _).mono ?_; rintro o w2 ⟨rfl, rfl⟩) | (go_at_call 344; refine (RD _).out.mono ?_; rintro o w1 ⟨rfl, hk1⟩; have hx1 : XAt w1 mb rb X := XAt.kept zq508 hk1; have d61 := hx1.c61; have d62 := hx1.c62; have d63 := hx1.c63; have d64 := hx1.c64; have d65 := hx1.c65; have hfr1 := hx1.fro))
 all_goals
  have hx1 : XAt w1 mb rb X := zq38
  go_wp2_with fail
  go_end0
  refine ⟨rfl, ?_, ?_⟩
  . repeat (first | (with_reducible exact hx1) | (with_reducible refine XAt.alloc ?_ _) | (with_reducible refine XAt.drew ?_) | (with_reducible refine XAt.setTimer ?_ B HBR.out))
  . exact zq246
theorem x_write_p (mb rb : Nat) (X : XS) (hx8 : X.b.tx.size <= 8) (pa n v : Nat) (hpa : pa < 17184063488) (hn : 1 <= n) (hv : v < 4294967296) (ht : ptB pa n = true) (w) (hw : Hid (XAt w mb rb X)) :
 CX 271 #[.pointer (some ⟨mb, 0, none⟩), porV pa n, .int .i64 v] (.tuple #[]) [mb] mb rb (X.withB (writeD X.b pa n v)) w := by
 have hlt := hw.out.lt
 have hrlt := hw.out.rlt
 have hlt' : ¬ mb = w.heap.size := by omega
 have hfr := hw.out.fro
 have c66 := hw.out.c66
 have c67 := hw.out.c67
 have c68 := hw.out.c68
 have c69 := hw.out.c69
 have c70 := hw.out.c70
 have htm := (pt_holds (L := 0) ht).2.2
 rw [write_pt X.b pa n v ht]
 have TM : Hid (∀ W, CS 340 #[.int .i64 pa, .int .i64 n] (.bool false) W) := zq36
 have PT : Hid (∀ W, CS 342 #[.int .i64 pa, .int .i64 n] (.bool true) W) := zq37
 have wr : IntKind.i64.wrap ((pa : Int) - 268435456) = (pa : Int) - 268435456 := zq9
 have m8 : bits .and .i64 (v : Int) 255 = ((v % 256 : Nat) : Int) := by
  have := and_mask (v : Int) 8 (by decide)
  have e : ((2 : Int) ^ 8) = 256 := by decide
  have e2 : ((2 ^ 8 - 1 : Nat) : Int) = 255 := by decide
  rw [e, e2] at this
  rw [this]; simp
 have RD := fun W => hide1 (x_pwritten X.b hx8 ((pa : Int) - 268435456) (v % 256) W)
 have hbr : SameBut5 X.b (pwrB X.b ((pa : Int) - 268435456) (v % 256)) := by
  unfold pwrB
  repeat' split
  all_goals exact ⟨rfl, rfl, rfl, rfl, rfl, rfl⟩
 obtain ⟨B, hB⟩ := zn1 (pwrB X.b ((pa : Int) - 268435456) (v % 256))
 simp only [<- hB] at RD hbr |-
 obtain ⟨u, hu⟩ := zn1 (v % 256)
 simp only [<- hu] at RD m8
 have q : ((n : Int) == 0) = false := by simp; omega
 have q' : (n == 0) = false := by simp; omega
 unfold prtA at RD
 have HBR := hide1 hbr
 clear hB ht hbr htm hu
 unfold porV
 go_enter func271, ntmps271
 go_upto_region 6 with (first | (go_at_call 340; refine (TM.out _).mono ?_; rintro o w2 ⟨rfl, rfl⟩) | (go_at_call 342; refine (PT.out _).mono ?_; rintro o w2 ⟨rfl, rfl⟩))
 go_region_with (first | (go_at_call 345; refine (RD _).out.mono ?_; rintro o w1 ⟨rfl, hk1⟩; have hx1 : XAt w1 mb rb X := XAt.kept zq508 hk1; have d66 := hx1.c66; have d67 := hx1.c67; have d68 := hx1.c68; have d69 := hx1.c69; have d70 := hx1.c70; have hfr1 := hx1.fro))
 all_goals
  have hx1 : XAt w1 mb rb X := zq38
  go_wp2_with fail
  go_end0
  refine ⟨rfl, ?_, ?_⟩
  . repeat (first | (with_reducible exact hx1) | (with_reducible refine XAt.alloc ?_ _) | (with_reducible refine XAt.drew ?_) | (with_reducible refine XAt.setPort ?_ B HBR.out))
  . exact zq246
theorem x_write_r (mb rb : Nat) (X : XS) (hram : X.b.ram.length <= 65536) (pa n v : Nat) (hpa : pa < 17184063488) (hn : 1 <= n) (hn4 : n <= 4) (hv : v < 4294967296) (hh : holdsD pa n X.b.ram.length = true) (w) (hw : Hid (XAt w mb rb X)) :
 CX 271 #[.pointer (some ⟨mb, 0, none⟩), porV pa n, .int .i64 v] (.tuple #[]) [rb] mb rb (X.withB (writeD X.b pa n v)) w := by
 have hlt := hw.out.lt
 have hrlt := hw.out.rlt
 have hlt' : ¬ mb = w.heap.size := by omega
 have hfr := hw.out.fro
 have ht : tmB pa n = false := by
  cases h : tmB pa n with
  | false => rfl
  | true => rw [(tm_holds (L := X.b.ram.length) h).1] at hh; cases hh
 have hp : ptB pa n = false := by
  cases h : ptB pa n with
  | false => rfl
  | true => rw [(pt_holds (L := X.b.ram.length) h).1] at hh; cases hh
 have er : writeD X.b pa n v = { X.b with ram := stN X.b.ram (((pa : Int) - 2147483648).toNat) n v } := by unfold writeD; rw [if_pos hh]; simp
 rw [er]
 have hr : 2147483648 <= pa /\ pa - 2147483648 + n <= X.b.ram.length := by
  have h := hh
  unfold holdsD at h; simp at h; omega
 obtain ⟨p, hp2⟩ := zn1 (((pa : Int) - 2147483648).toNat)
 rw [<- hp2]
 have TM : Hid (∀ W, CS 340 #[.int .i64 pa, .int .i64 n] (.bool false) W) := zq39
 have PT : Hid (∀ W, CS 342 #[.int .i64 pa, .int .i64 n] (.bool false) W) := zq40
 have RN := hide1 (fun W h => x_setRamNumber_yes mb rb X hram pa p n (by omega) hn hn4 (by omega) v hv W h)
 have hwa : Hid (XAt (w.alloc (.cells #[.int .i64 pa, .int .i64 n] 231)) mb rb X) := zq10
 have q : ((n : Int) == 0) = false := by simp; omega
 have q' : (n == 0) = false := by simp; omega
 clear ht hp hp2 hr er hh
 unfold porV
 go_enter func271, ntmps271
 go_wp2_with (first | (go_at_call 340; refine (TM.out _).mono ?_; rintro o w2 ⟨rfl, rfl⟩) | (go_at_call 342; refine (PT.out _).mono ?_; rintro o w2 ⟨rfl, rfl⟩) | (go_at_call 346; refine (RN.out _ hwa).mono ?_; rintro o w1 ⟨rfl, hx1, hk1⟩))
 exact zq249
theorem x_write (mb rb : Nat) (X : XS) (hB : BusOk X.b) (pa n v : Nat) (hpa : pa < 17184063488) (hn : 1 <= n) (hn4 : n <= 4) (hv : v < 4294967296) (ht : takesD pa n X.b.ram.length = true) (w) (hw : Hid (XAt w mb rb X)) :
 CX 271 #[.pointer (some ⟨mb, 0, none⟩), porV pa n, .int .i64 v] (.tuple #[]) [mb, rb] mb rb (X.withB (writeD X.b pa n v)) w := by
 rw [takes_or] at ht
 cases hh : holdsD pa n X.b.ram.length with
 | true =>
  refine (x_write_r mb rb X hB.ram pa n v hpa hn hn4 hv hh w hw).mono ?_
  rintro o w1 ⟨rfl, hx, hk⟩
  exact ⟨rfl, hx, hk.mono (by simp)⟩
 | false =>
  cases htm : tmB pa n with
  | true =>
   refine (x_write_t mb rb X pa n v hpa hn hv htm w hw).mono ?_
   rintro o w1 ⟨rfl, hx, hk⟩
   exact ⟨rfl, hx, hk.mono (by simp)⟩
  | false =>
   rw [hh, htm] at ht
   refine (x_write_p mb rb X hB.tx pa n v hpa hn hv (by simpa using ht) w hw).mono ?_
   rintro o w1 ⟨rfl, hx, hk⟩
   exact ⟨rfl, hx, hk.mono (by simp)⟩
end
theorem sum_le : ∀ (q : List UInt8) (w : Nat), Pic.sum q w <= 33554432 * q.length
 | [], _ => by simp [Pic.sum]
 | x :: q, w => by
  have h := sum_le q (w / 2)
  simp only [Pic.sum, List.length_cons]
  cases hl : Pic.isLet x with
  | false => simp; omega
  | true =>
   simp only [Pic.isLet, Bool.and_eq_true, decide_eq_true_eq] at hl
   have h1 : 2 ^ (x.toNat - 97) <= 2 ^ 25 := Nat.pow_le_pow_right (by decide) (by omega)
   have h2 : w % 2 * 2 ^ (x.toNat - 97) <= 1 * 2 ^ (x.toNat - 97) := Nat.mul_le_mul_right _ (by omega)
   have h3 : (2 : Nat) ^ 25 = 33554432 := by decide
   simp only [cond_true]; omega
theorem high_le : ∀ (q : List UInt8), Pic.high q <= 33554432
 | [] => by simp [Pic.high]
 | x :: q => by
  have h := high_le q
  cases hl : Pic.isLet x with
  | false => simp only [Pic.high, hl, cond_false]; exact h
  | true =>
   simp only [Pic.high, hl, cond_true]
   simp only [Pic.isLet, Bool.and_eq_true, decide_eq_true_eq] at hl
   have h1 : 2 ^ (x.toNat - 97) <= 2 ^ 25 := Nat.pow_le_pow_right (by decide) (by omega)
   have h3 : (2 : Nat) ^ 25 = 33554432 := by decide
   omega
def immOf (s : ByteArray) (neg : Bool) (W : Nat) : Int := Pic.imm (Pic.rv s.data.toList s.size) neg W
theorem wrap_nat (p : Nat) (h : p <= 2147483648) : wrap64 (p : Int) = p := by unfold wrap64; omega
theorem wrap_add (a b : Nat) (h : a + b <= 2147483648) : wrap64 ((a : Int) + (b : Int)) = (a : Int) + b := by unfold wrap64; omega
theorem imm_hit {c : UInt8} {q : List UInt8} {x nn tt T H p : Nat} (hl : Pic.isLet c = true) (hp : Hid (p = 2 ^ (c.toNat - 97))) (h : Hid (nn + Pic.sum (c :: q) x = T /\ max tt (Pic.high (c :: q)) = H)) :
 Hid (nn + x % 2 * p + Pic.sum q (x / 2) = T /\ max (max tt p) (Pic.high q) = H) := by
 obtain ⟨h1, h2⟩ := h.out
 simp only [Pic.sum, Pic.high, hl, cond_true] at h1 h2
 rw [<- hp.out] at h1 h2
 exact ⟨by omega, by omega⟩
theorem imm_miss {c : UInt8} {q : List UInt8} {x nn tt T H : Nat} (hl : Pic.isLet c = false) (h : Hid (nn + Pic.sum (c :: q) x = T /\ max tt (Pic.high (c :: q)) = H)) :
 Hid (nn + Pic.sum q (x / 2) = T /\ max tt (Pic.high q) = H) := by
 obtain ⟨h1, h2⟩ := h.out
 simp only [Pic.sum, Pic.high, hl, cond_false, Nat.zero_add] at h1 h2
 exact ⟨h1, h2⟩
theorem pow_wrap {n : Nat} (h : n <= 25) : wrap64 (2 ^ n) = ((2 ^ n : Nat) : Int) /\ 2 ^ n <= 33554432 /\ 1 <= 2 ^ n := by
 have h1 : 2 ^ n <= 2 ^ 25 := Nat.pow_le_pow_right (by decide) h
 have h3 : (2 : Nat) ^ 25 = 33554432 := by decide
 have h4 : 1 <= 2 ^ n := Nat.one_le_two_pow
 have e1 : ((2 : Int) ^ n) = ((2 ^ n : Nat) : Int) := by simp
 refine ⟨?_, by omega, h4⟩
 rw [e1]; unfold wrap64; omega
theorem i_immediate (s : ByteArray) (hs : s.size <= 32) (neg : Bool) (W : Nat) (hW : W < 4294967296) (w : World) :
 CS 299 #[.string s, .bool neg, .int .i64 W] (.int .i64 (immOf s neg W)) w := by
 obtain ⟨T, hT⟩ := zn1 (Pic.sum (Pic.rv s.data.toList s.size) W)
 obtain ⟨H, hH⟩ := zn1 (Pic.high (Pic.rv s.data.toList s.size))
 have bT : T <= 1073741824 := by
  have := sum_le (Pic.rv s.data.toList s.size) W
  rw [Pic.rv_length _ _ (by simp), <- hT] at this
  omega
 have bH : H <= 33554432 := by rw [hH]; exact high_le _
 have HI : Hid (immOf s neg W = if neg = true /\ H <= T then (T : Int) - 2 * (H : Int) else (T : Int)) := by rw [hT, hH]; rfl
 have HT : Hid (T = Pic.sum (Pic.rv s.data.toList s.size) W) := hT
 have HH : Hid (H = Pic.high (Pic.rv s.data.toList s.size)) := hH
 clear hT hH
 go_enter func299, ntmps299
 go_wp2
 go_loop [2, 7, 8, 9] (fun y n t k => ∃ j x nn tt : Nat, j <= s.size /\ x < 4294967296 /\ k = .int .i64 ((j : Int) - 1) /\ y = .int .i64 x /\ n = .int .i64 nn /\ t = .int .i64 tt /\
  Hid (nn + Pic.sum (Pic.rv s.data.toList j) x = T /\ max tt (Pic.high (Pic.rv s.data.toList j)) = H)) (fun _ _ _ k => (intOf k + 1).toNat)
 case atStart => exact ⟨s.size, W, 0, 0, Nat.le_refl _, hW, rfl, rfl, rfl, rfl, ⟨by rw [<- HT.out]; omega, by rw [<- HH.out]; omega⟩⟩
 case round =>
  obtain ⟨j, x, nn, tt, hj, hx, rfl, rfl, rfl, rfl, hh⟩ := hrel
  have b1 : nn <= 1073741824 := by have := hh.out.1; omega
  have b2 : tt <= 33554432 := by have := hh.out.2; omega
  cases j with
  | zero =>
   obtain ⟨q1, q2⟩ := hh.out
   simp only [Pic.rv_zero, Pic.sum, Pic.high, Nat.add_zero, Nat.max_zero] at q1 q2
   subst q1
   subst q2
   clear hh
   cases neg with
   | false =>
    go_wp2
    go_ret
    exact ⟨congrArg (fun z => Ending.returned (Value.int .i64 z)) (by rw [HI.out]; simp), rfl⟩
   | true =>
    by_cases hge : tt <= nn
    . go_wp2
      go_ret
      exact ⟨congrArg (fun z => Ending.returned (Value.int .i64 z)) (by rw [HI.out, if_pos (by simpa using hge)]), rfl⟩
    . have hge' : decide ((tt : Int) <= nn) = false := by rw [decide_eq_false_iff_not]; omega
      go_wp2
      go_ret
      exact ⟨congrArg (fun z => Ending.returned (Value.int .i64 z)) (by rw [HI.out, if_neg (fun h => hge h.2)]), rfl⟩
  | succ i =>
   have e : ((i + 1 : Nat) : Int) - 1 = (i : Int) := by omega
   rw [e]
   have hi : i < s.size := by omega
   rw [rv_at s i hi] at hh
   by_cases hl : Pic.isLet s[i] = true
   . have c1 : 97 <= s[i].toNat /\ s[i].toNat <= 122 := by simpa [Pic.isLet] using hl
     obtain ⟨c1, c2⟩ := c1
     obtain ⟨hw1, hw2, hw3⟩ := pow_wrap (n := s[i].toNat - 97) (by omega)
     obtain ⟨p, hp⟩ := zn1 (2 ^ (s[i].toNat - 97))
     rw [<- hp] at hw1 hw2 hw3
     have HP : Hid (p = 2 ^ (s[i].toNat - 97)) := hp
     clear hp
     have H2 := imm_hit hl HP hh
     have b3 : nn + x % 2 * p <= 1073741824 := by have := H2.out.1; omega
     have hwp := wrap_nat p (Nat.le_trans hw2 (by decide))
     have HW1 : Hid (wrap64 (2 ^ (s[i].toNat - 97)) = (p : Int)) := hw1
     have HWP : Hid (wrap64 (p : Int) = p) := hwp
     clear hwp hw1
     clear hh
     rcases Nat.mod_two_eq_zero_or_one x with hm | hm
     . have h1 : bits BinOp.and IntKind.i64 (x : Int) 1 = 0 := by rw [and_one]; omega
       rw [hm] at H2 b3
       have HM : Hid (x % 2 = 0) := hm
       clear hm
       go_wp2_with (go_at_call 211; refine (i_isLet _ _).mono ?_; rintro e w' ⟨rfl, rfl⟩)
       . have hgt : (tt : Int) < wrap64 (2 ^ (s[i].toNat - 97)) := by assumption
         rw [HW1.out] at hgt
         have hgt' : tt <= p := by omega
         go_round
         case rel => exact ⟨i, x / 2, nn, p, by omega, by omega, by go_num, by go_num, rfl, congrArg (Value.int .i64) HW1.out, by simpa [Nat.max_eq_right hgt'] using H2⟩
         case measure => simp [intOf]
       . have hgt : wrap64 (2 ^ (s[i].toNat - 97)) <= (tt : Int) := by assumption
         rw [HW1.out] at hgt
         have hgt' : p <= tt := by omega
         go_round
         case rel => exact ⟨i, x / 2, nn, tt, by omega, by omega, by go_num, by go_num, rfl, rfl, by simpa [Nat.max_eq_left hgt'] using H2⟩
         case measure => simp [intOf]
     . have h1 : bits BinOp.and IntKind.i64 (x : Int) 1 = 1 := by rw [and_one]; omega
       rw [hm] at H2 b3
       have HM : Hid (x % 2 = 1) := hm
       clear hm
       have hwn := wrap_add nn p (Nat.le_trans (by simpa using b3) (by decide))
       have HWN : Hid (wrap64 ((nn : Int) + (p : Int)) = (nn : Int) + p) := hwn
       clear hwn
       go_wp2_with (go_at_call 211; refine (i_isLet _ _).mono ?_; rintro e w' ⟨rfl, rfl⟩)
       . have hgt : (tt : Int) < wrap64 (2 ^ (s[i].toNat - 97)) := by assumption
         rw [HW1.out] at hgt
         have hgt' : tt <= p := by omega
         go_round
         case rel => exact ⟨i, x / 2, nn + p, p, by omega, by omega, by go_num, by go_num, congrArg (Value.int .i64) zq509, congrArg (Value.int .i64) HW1.out, by simpa [Nat.max_eq_right hgt'] using H2⟩
         case measure => simp [intOf]
       . have hgt : wrap64 (2 ^ (s[i].toNat - 97)) <= (tt : Int) := by assumption
         rw [HW1.out] at hgt
         have hgt' : p <= tt := by omega
         go_round
         case rel => exact ⟨i, x / 2, nn + p, tt, by omega, by omega, by go_num, by go_num, congrArg (Value.int .i64) zq509, rfl, by simpa [Nat.max_eq_left hgt'] using H2⟩
         case measure => simp [intOf]
   . have hl : Pic.isLet s[i] = false := by simpa using hl
     have H2 := imm_miss hl hh
     clear hh
     go_wp2_with (go_at_call 211; refine (i_isLet _ _).mono ?_; rintro e w' ⟨rfl, rfl⟩)
     exact zq209
theorem draw_one {q : List UInt8} {acc tt T : Nat} {c : UInt8} {rd rs1 rs2 im : Int} (hc : (c.toNat : Int) = 49)
 (h : Hid (acc + tt * Pic.draw (c :: q) rd rs1 rs2 im = T)) : Hid (acc + tt + (tt * 2) * Pic.draw q rd rs1 rs2 im = T) := by
 have e : c = 49 := (u8_eq (n := 49) (by decide)).1 hc
 have h1 := h.out
 simp only [Pic.draw, if_pos e] at h1
 show _ = _
 rw [<- h1, Nat.mul_add, Nat.mul_assoc]; omega
theorem draw_rd {q : List UInt8} {acc tt T b : Nat} {c : UInt8} {rd rs1 rs2 im : Int} (hc : (c.toNat : Int) = 68 \/ (c.toNat : Int) = 66) (hb : rd % 2 = b)
 (h : Hid (acc + tt * Pic.draw (c :: q) rd rs1 rs2 im = T)) : Hid (acc + b * tt + (tt * 2) * Pic.draw q (rd / 2) rs1 rs2 im = T) := by
 have e : c = 68 \/ c = 66 := hc.imp (u8_eq (n := 68) (by decide)).1 (u8_eq (n := 66) (by decide)).1
 have n1 : ¬ c = 49 := by rcases e with e | e <;> subst e <;> decide
 have h1 := h.out
 simp only [Pic.draw, if_neg n1, if_pos e] at h1
 exact zq250
theorem draw_rs1 {q : List UInt8} {acc tt T b : Nat} {c : UInt8} {rd rs1 rs2 im : Int} (hc : (c.toNat : Int) = 83) (hb : rs1 % 2 = b)
 (h : Hid (acc + tt * Pic.draw (c :: q) rd rs1 rs2 im = T)) : Hid (acc + b * tt + (tt * 2) * Pic.draw q rd (rs1 / 2) rs2 im = T) := by
 have e : c = 83 := (u8_eq (n := 83) (by decide)).1 hc
 subst e
 have h1 := h.out
 simp only [Pic.draw, if_neg (show ¬ ((83 : UInt8) = 49) by decide), if_neg (show ¬ ((83 : UInt8) = 68 \/ (83 : UInt8) = 66) by decide), if_true] at h1
 exact zq250
theorem draw_rs2 {q : List UInt8} {acc tt T b : Nat} {c : UInt8} {rd rs1 rs2 im : Int} (hc : (c.toNat : Int) = 84) (hb : rs2 % 2 = b)
 (h : Hid (acc + tt * Pic.draw (c :: q) rd rs1 rs2 im = T)) : Hid (acc + b * tt + (tt * 2) * Pic.draw q rd rs1 (rs2 / 2) im = T) := by
 have e : c = 84 := (u8_eq (n := 84) (by decide)).1 hc
 subst e
 have h1 := h.out
 simp only [Pic.draw, if_neg (show ¬ ((84 : UInt8) = 49) by decide), if_neg (show ¬ ((84 : UInt8) = 68 \/ (84 : UInt8) = 66) by decide), if_neg (show ¬ ((84 : UInt8) = 83) by decide), if_true] at h1
 exact zq250
theorem let_not {c : UInt8} (hl : Pic.isLet c = true) : ¬ c = 49 /\ ¬ (c = 68 \/ c = 66) /\ ¬ c = 83 /\ ¬ c = 84 := by
 refine ⟨?_, ?_, ?_, ?_⟩
 . intro e; subst e; revert hl; decide
 . rintro (e | e) <;> subst e <;> revert hl <;> decide
 . intro e; subst e; revert hl; decide
 . intro e; subst e; revert hl; decide
theorem draw_imm {q : List UInt8} {acc tt T b : Nat} {c : UInt8} {rd rs1 rs2 im : Int} (hl : Pic.isLet c = true) (hb : im / 2 ^ (c.toNat - 97) % 2 = b)
 (h : Hid (acc + tt * Pic.draw (c :: q) rd rs1 rs2 im = T)) : Hid (acc + b * tt + (tt * 2) * Pic.draw q rd rs1 rs2 im = T) := by
 obtain ⟨n1, n2, n3, n4⟩ := let_not hl
 have h1 := h.out
 simp only [Pic.draw, if_neg n1, if_neg n2, if_neg n3, if_neg n4, if_pos hl] at h1
 exact zq250
theorem draw_none {q : List UInt8} {acc tt T : Nat} {c : UInt8} {rd rs1 rs2 im : Int} (h1 : ¬ (c.toNat : Int) = 49) (h2 : ¬ (c.toNat : Int) = 68) (h3 : ¬ (c.toNat : Int) = 66) (h4 : ¬ (c.toNat : Int) = 83) (h5 : ¬ (c.toNat : Int) = 84) (hl : Pic.isLet c = false)
 (h : Hid (acc + tt * Pic.draw (c :: q) rd rs1 rs2 im = T)) : Hid (acc + (tt * 2) * Pic.draw q rd rs1 rs2 im = T) := by
 have n1 : ¬ c = 49 := fun e => h1 ((u8_eq (n := 49) (by decide)).2 e)
 have n2 : ¬ (c = 68 \/ c = 66) := by
  rintro (e | e)
  . exact h2 ((u8_eq (n := 68) (by decide)).2 e)
  . exact h3 ((u8_eq (n := 66) (by decide)).2 e)
 have n3 : ¬ c = 83 := fun e => h4 ((u8_eq (n := 83) (by decide)).2 e)
 have n4 : ¬ c = 84 := fun e => h5 ((u8_eq (n := 84) (by decide)).2 e)
 have g := h.out
 simp only [Pic.draw, if_neg n1, if_neg n2, if_neg n3, if_neg n4, hl, Bool.false_eq_true, if_false] at g
 show _ = _
 rw [<- g, Nat.mul_assoc]
theorem i_draw (s : ByteArray) (hs : s.size <= 32) (op rd rs1 rs2 im ln : Int) (w : World) :
 Calls prog 140 #[.string s, .agg #[.int .i64 op, .int .i64 rd, .int .i64 rs1, .int .i64 rs2, .int .i64 im, .int .i64 ln]] w fun e w' =>
  e = .returned (.int .i64 (Pic.draw (Pic.rv s.data.toList s.size) rd rs1 rs2 im)) /\ Below w.heap.size w w' := by
 obtain ⟨T, hT⟩ := zn1 (Pic.draw (Pic.rv s.data.toList s.size) rd rs1 rs2 im)
 have bT : T < 4294967296 := by
  have h := Pic.draw_lt (Pic.rv s.data.toList s.size) rd rs1 rs2 im
  rw [Pic.rv_length _ _ (by simp), <- hT] at h
  have c : 2 ^ s.size <= 2 ^ 32 := Nat.pow_le_pow_right (by decide) hs
  have d : (2 : Nat) ^ 32 = 4294967296 := by decide
  omega
 rw [<- hT]
 have HT : Hid (T = Pic.draw (Pic.rv s.data.toList s.size) rd rs1 rs2 im) := hT
 clear hT
 go_enter func140, ntmps140
 go_wp2
 go_loop [5, 6, 7, 8, 9, 10] (fun a t d r1 r2 k => ∃ (j acc tt : Nat) (yd y1 y2 : Int), j <= s.size /\ k = .int .i64 ((j : Int) - 1) /\ a = .int .i64 acc /\ t = .int .i64 tt /\ d = .int .i64 yd /\ r1 = .int .i64 y1 /\ r2 = .int .i64 y2 /\ tt <= 4294967296 /\
  Hid (tt * 2 ^ j = 2 ^ s.size) /\ Hid (acc + tt * Pic.draw (Pic.rv s.data.toList j) yd y1 y2 im = T)) (fun _ _ _ _ _ k => (intOf k + 1).toNat)
 case atStart => exact ⟨s.size, 0, 1, rd, rs1, rs2, Nat.le_refl _, rfl, rfl, rfl, rfl, rfl, rfl, by omega, (by omega : 1 * 2 ^ s.size = 2 ^ s.size), (by rw [<- HT.out]; omega : 0 + 1 * Pic.draw (Pic.rv s.data.toList s.size) rd rs1 rs2 im = T)⟩
 case round =>
  obtain ⟨j, acc, tt, yd, y1, y2, hj, rfl, rfl, rfl, rfl, rfl, rfl, b2, ht, hh⟩ := hrel
  have b1 : acc < 4294967296 := by have := hh.out; omega
  cases j with
  | zero =>
   have q := hh.out
   simp only [Pic.rv_zero, Pic.draw, Nat.mul_zero, Nat.add_zero] at q
   subst q
   go_wp2
   go_ret
   exact ⟨rfl, (Below.refl _ _).alloc (Nat.le_refl _) _⟩
  | succ i =>
   have e : ((i + 1 : Nat) : Int) - 1 = (i : Int) := by omega
   rw [e]
   have hi : i < s.size := by omega
   rw [rv_at s i hi] at hh
   have ht' : tt * 2 * 2 ^ i = 2 ^ s.size := by rw [Nat.mul_assoc, <- Nat.pow_succ']; exact ht.out
   have b3 : tt * 2 <= 4294967296 := by
    have c : 2 ^ s.size <= 2 ^ 32 := Nat.pow_le_pow_right (by decide) hs
    have d : (2 : Nat) ^ 32 = 4294967296 := by decide
    have e : 1 <= 2 ^ i := Nat.one_le_two_pow
    have f : tt * 2 * 1 <= tt * 2 * 2 ^ i := Nat.mul_le_mul_left _ e
    omega
   have HTT : Hid (tt * 2 * 2 ^ i = 2 ^ s.size) := ht'
   clear ht' ht
   by_cases c1 : (s[i].toNat : Int) = 49
   . have H2 := draw_one c1 hh
     have b4 : acc + tt < 4294967296 := by have := H2.out; omega
     have C1 : ((s[i].toNat : Int) == 49) = true := by rw [beq_iff_eq]; exact c1
     have c1' : Hid ((s[i].toNat : Int) = 49) := c1
     clear c1 hh
     go_wp2
     go_round
     case rel => exact ⟨i, acc + tt, tt * 2, yd, y1, y2, by omega, by go_num, by go_num, by go_num, rfl, rfl, rfl, b3, HTT, H2⟩
     case measure => simp [intOf]
   . have C49 : ((s[i].toNat : Int) == 49) = false := by rw [beq_eq_false_iff_ne]; exact c1
     by_cases c68 : (s[i].toNat : Int) = 68
     . have C68 : ((s[i].toNat : Int) == 68) = true := by rw [beq_iff_eq]; exact c68
       have hcl : (s[i].toNat : Int) = 68 \/ (s[i].toNat : Int) = 66 := Or.inl c68
       clear c68 c1
       exact zq252
     have C68 : ((s[i].toNat : Int) == 68) = false := by rw [beq_eq_false_iff_ne]; exact c68
     by_cases c66 : (s[i].toNat : Int) = 66
     . have C66 : ((s[i].toNat : Int) == 66) = true := by rw [beq_iff_eq]; exact c66
       have hcl : (s[i].toNat : Int) = 68 \/ (s[i].toNat : Int) = 66 := Or.inr c66
       clear c68 c1 c66
       exact zq252
     have C66 : ((s[i].toNat : Int) == 66) = false := by rw [beq_eq_false_iff_ne]; exact c66
     by_cases c83 : (s[i].toNat : Int) = 83
     . have C83 : ((s[i].toNat : Int) == 83) = true := by rw [beq_iff_eq]; exact c83
       have hcl := c83
       clear c68 c1 c66 c83
       rcases Int.emod_two_eq y1 with hb | hb
       . have H2 := draw_rs1 (b := 0) hcl hb hh
         have h1 : bits BinOp.and IntKind.i64 (y1) 1 = 0 := zq41
         have H3 : Hid (acc + (tt * 2) * Pic.draw (Pic.rv s.data.toList i) yd (y1 / 2) y2 im = T) := by simpa using H2
         have b4 : acc < 4294967296 := zq42
         clear hb hh H2 hcl
         go_wp2
         go_round
         case rel => exact ⟨i, acc, tt * 2, yd, y1 / 2, y2, by omega, by go_num, by go_num, by go_num, rfl, rfl, rfl, b3, HTT, H3⟩
         case measure => simp [intOf]
       . have H2 := draw_rs1 (b := 1) hcl hb hh
         have h1 : bits BinOp.and IntKind.i64 (y1) 1 = 1 := zq41
         have H3 : Hid (acc + tt + (tt * 2) * Pic.draw (Pic.rv s.data.toList i) yd (y1 / 2) y2 im = T) := by simpa using H2
         have b4 : acc + tt < 4294967296 := zq42
         clear hb hh H2 hcl
         go_wp2
         go_round
         case rel => exact ⟨i, acc + tt, tt * 2, yd, y1 / 2, y2, by omega, by go_num, by go_num, by go_num, rfl, rfl, rfl, b3, HTT, H3⟩
         case measure => simp [intOf]
     have C83 : ((s[i].toNat : Int) == 83) = false := by rw [beq_eq_false_iff_ne]; exact c83
     by_cases c84 : (s[i].toNat : Int) = 84
     . have C84 : ((s[i].toNat : Int) == 84) = true := by rw [beq_iff_eq]; exact c84
       have hcl := c84
       clear c68 c1 c66 c83 c84
       rcases Int.emod_two_eq y2 with hb | hb
       . have H2 := draw_rs2 (b := 0) hcl hb hh
         have h1 : bits BinOp.and IntKind.i64 (y2) 1 = 0 := zq41
         have H3 : Hid (acc + (tt * 2) * Pic.draw (Pic.rv s.data.toList i) yd y1 (y2 / 2) im = T) := by simpa using H2
         have b4 : acc < 4294967296 := zq42
         clear hb hh H2 hcl
         go_wp2
         go_round
         case rel => exact ⟨i, acc, tt * 2, yd, y1, y2 / 2, by omega, by go_num, by go_num, by go_num, rfl, rfl, rfl, b3, HTT, H3⟩
         case measure => simp [intOf]
       . have H2 := draw_rs2 (b := 1) hcl hb hh
         have h1 : bits BinOp.and IntKind.i64 (y2) 1 = 1 := zq41
         have H3 : Hid (acc + tt + (tt * 2) * Pic.draw (Pic.rv s.data.toList i) yd y1 (y2 / 2) im = T) := by simpa using H2
         have b4 : acc + tt < 4294967296 := zq42
         clear hb hh H2 hcl
         go_wp2
         go_round
         case rel => exact ⟨i, acc + tt, tt * 2, yd, y1, y2 / 2, by omega, by go_num, by go_num, by go_num, rfl, rfl, rfl, b3, HTT, H3⟩
         case measure => simp [intOf]
     have C84 : ((s[i].toNat : Int) == 84) = false := by rw [beq_eq_false_iff_ne]; exact c84
     by_cases hl : Pic.isLet s[i] = true
     . have cc : 97 <= s[i].toNat /\ s[i].toNat <= 122 := by simpa [Pic.isLet] using hl
       obtain ⟨cc1, cc2⟩ := cc
       have hcl := hl
       clear c68 c1 c66 c83 c84
       rcases Int.emod_two_eq (im / 2 ^ (s[i].toNat - 97)) with hb | hb
       . have H2 := draw_imm (b := 0) hcl hb hh
         have h1 : bits BinOp.and IntKind.i64 ((im / 2 ^ (s[i].toNat - 97))) 1 = 0 := zq41
         have H3 : Hid (acc + (tt * 2) * Pic.draw (Pic.rv s.data.toList i) yd y1 y2 im = T) := by simpa using H2
         have b4 : acc < 4294967296 := zq42
         clear hb hh H2 hcl
         exact zq251
       . have H2 := draw_imm (b := 1) hcl hb hh
         have h1 : bits BinOp.and IntKind.i64 ((im / 2 ^ (s[i].toNat - 97))) 1 = 1 := zq41
         have H3 : Hid (acc + tt + (tt * 2) * Pic.draw (Pic.rv s.data.toList i) yd y1 y2 im = T) := by simpa using H2
         have b4 : acc + tt < 4294967296 := zq42
         clear hb hh H2 hcl
         go_wp2_with (go_at_call 211; refine (i_isLet _ _).mono ?_; rintro e w' ⟨rfl, rfl⟩)
         go_round
         case rel => exact ⟨i, acc + tt, tt * 2, yd, y1, y2, by omega, by go_num, by go_num, by go_num, rfl, rfl, rfl, b3, HTT, H3⟩
         case measure => simp [intOf]
     have hl' : Pic.isLet s[i] = false := by simpa using hl
     have H3 := draw_none c1 c68 c66 c83 c84 hl' hh
     clear hh c1 c68 c66 c83 c84 hl
     exact zq251
namespace Tab
def upperRow (op : Int) : Int × ByteArray × Int :=
 bif op == 1 then (op, ⟨#[116, 115, 114, 113, 112, 111, 110, 109, 108, 107, 106, 105, 104, 103, 102, 101, 100, 99, 98, 97, 68, 68, 68, 68, 68, 48, 49, 49, 48, 49, 49, 49]⟩, 1) else
 bif op == 2 then (op, ⟨#[116, 115, 114, 113, 112, 111, 110, 109, 108, 107, 106, 105, 104, 103, 102, 101, 100, 99, 98, 97, 68, 68, 68, 68, 68, 48, 48, 49, 48, 49, 49, 49]⟩, 1) else
 (0, ⟨#[]⟩, 0)
def jumpRow (op : Int) : Int × ByteArray × Int :=
 bif op == 3 then (op, ⟨#[117, 107, 106, 105, 104, 103, 102, 101, 100, 99, 98, 108, 116, 115, 114, 113, 112, 111, 110, 109, 68, 68, 68, 68, 68, 49, 49, 48, 49, 49, 49, 49]⟩, 1) else
 bif op == 4 then (op, ⟨#[108, 107, 106, 105, 104, 103, 102, 101, 100, 99, 98, 97, 83, 83, 83, 83, 83, 48, 48, 48, 68, 68, 68, 68, 68, 49, 49, 48, 48, 49, 49, 49]⟩, 1) else
 bif op == 5 then (op, ⟨#[109, 107, 106, 105, 104, 103, 102, 84, 84, 84, 84, 84, 83, 83, 83, 83, 83, 48, 48, 48, 101, 100, 99, 98, 108, 49, 49, 48, 48, 48, 49, 49]⟩, 1) else
 bif op == 6 then (op, ⟨#[109, 107, 106, 105, 104, 103, 102, 84, 84, 84, 84, 84, 83, 83, 83, 83, 83, 48, 48, 49, 101, 100, 99, 98, 108, 49, 49, 48, 48, 48, 49, 49]⟩, 1) else
 bif op == 7 then (op, ⟨#[109, 107, 106, 105, 104, 103, 102, 84, 84, 84, 84, 84, 83, 83, 83, 83, 83, 49, 48, 48, 101, 100, 99, 98, 108, 49, 49, 48, 48, 48, 49, 49]⟩, 1) else
 bif op == 8 then (op, ⟨#[109, 107, 106, 105, 104, 103, 102, 84, 84, 84, 84, 84, 83, 83, 83, 83, 83, 49, 48, 49, 101, 100, 99, 98, 108, 49, 49, 48, 48, 48, 49, 49]⟩, 1) else
 bif op == 9 then (op, ⟨#[109, 107, 106, 105, 104, 103, 102, 84, 84, 84, 84, 84, 83, 83, 83, 83, 83, 49, 49, 48, 101, 100, 99, 98, 108, 49, 49, 48, 48, 48, 49, 49]⟩, 1) else
 bif op == 10 then (op, ⟨#[109, 107, 106, 105, 104, 103, 102, 84, 84, 84, 84, 84, 83, 83, 83, 83, 83, 49, 49, 49, 101, 100, 99, 98, 108, 49, 49, 48, 48, 48, 49, 49]⟩, 1) else
 (0, ⟨#[]⟩, 0)
def memoryRow (op : Int) : Int × ByteArray × Int :=
 bif op == 11 then (op, ⟨#[108, 107, 106, 105, 104, 103, 102, 101, 100, 99, 98, 97, 83, 83, 83, 83, 83, 48, 48, 48, 68, 68, 68, 68, 68, 48, 48, 48, 48, 48, 49, 49]⟩, 1) else
 bif op == 12 then (op, ⟨#[108, 107, 106, 105, 104, 103, 102, 101, 100, 99, 98, 97, 83, 83, 83, 83, 83, 48, 48, 49, 68, 68, 68, 68, 68, 48, 48, 48, 48, 48, 49, 49]⟩, 1) else
 bif op == 13 then (op, ⟨#[108, 107, 106, 105, 104, 103, 102, 101, 100, 99, 98, 97, 83, 83, 83, 83, 83, 48, 49, 48, 68, 68, 68, 68, 68, 48, 48, 48, 48, 48, 49, 49]⟩, 1) else
 bif op == 14 then (op, ⟨#[108, 107, 106, 105, 104, 103, 102, 101, 100, 99, 98, 97, 83, 83, 83, 83, 83, 49, 48, 48, 68, 68, 68, 68, 68, 48, 48, 48, 48, 48, 49, 49]⟩, 1) else
 bif op == 15 then (op, ⟨#[108, 107, 106, 105, 104, 103, 102, 101, 100, 99, 98, 97, 83, 83, 83, 83, 83, 49, 48, 49, 68, 68, 68, 68, 68, 48, 48, 48, 48, 48, 49, 49]⟩, 1) else
 bif op == 16 then (op, ⟨#[108, 107, 106, 105, 104, 103, 102, 84, 84, 84, 84, 84, 83, 83, 83, 83, 83, 48, 48, 48, 101, 100, 99, 98, 97, 48, 49, 48, 48, 48, 49, 49]⟩, 1) else
 bif op == 17 then (op, ⟨#[108, 107, 106, 105, 104, 103, 102, 84, 84, 84, 84, 84, 83, 83, 83, 83, 83, 48, 48, 49, 101, 100, 99, 98, 97, 48, 49, 48, 48, 48, 49, 49]⟩, 1) else
 bif op == 18 then (op, ⟨#[108, 107, 106, 105, 104, 103, 102, 84, 84, 84, 84, 84, 83, 83, 83, 83, 83, 48, 49, 48, 101, 100, 99, 98, 97, 48, 49, 48, 48, 48, 49, 49]⟩, 1) else
 (0, ⟨#[]⟩, 0)
def immediateRow (op : Int) : Int × ByteArray × Int :=
 bif op == 19 then (op, ⟨#[108, 107, 106, 105, 104, 103, 102, 101, 100, 99, 98, 97, 83, 83, 83, 83, 83, 48, 48, 48, 68, 68, 68, 68, 68, 48, 48, 49, 48, 48, 49, 49]⟩, 1) else
 bif op == 20 then (op, ⟨#[108, 107, 106, 105, 104, 103, 102, 101, 100, 99, 98, 97, 83, 83, 83, 83, 83, 48, 49, 48, 68, 68, 68, 68, 68, 48, 48, 49, 48, 48, 49, 49]⟩, 1) else
 bif op == 21 then (op, ⟨#[108, 107, 106, 105, 104, 103, 102, 101, 100, 99, 98, 97, 83, 83, 83, 83, 83, 48, 49, 49, 68, 68, 68, 68, 68, 48, 48, 49, 48, 48, 49, 49]⟩, 1) else
 bif op == 22 then (op, ⟨#[108, 107, 106, 105, 104, 103, 102, 101, 100, 99, 98, 97, 83, 83, 83, 83, 83, 49, 48, 48, 68, 68, 68, 68, 68, 48, 48, 49, 48, 48, 49, 49]⟩, 1) else
 bif op == 23 then (op, ⟨#[108, 107, 106, 105, 104, 103, 102, 101, 100, 99, 98, 97, 83, 83, 83, 83, 83, 49, 49, 48, 68, 68, 68, 68, 68, 48, 48, 49, 48, 48, 49, 49]⟩, 1) else
 bif op == 24 then (op, ⟨#[108, 107, 106, 105, 104, 103, 102, 101, 100, 99, 98, 97, 83, 83, 83, 83, 83, 49, 49, 49, 68, 68, 68, 68, 68, 48, 48, 49, 48, 48, 49, 49]⟩, 1) else
 bif op == 25 then (op, ⟨#[48, 48, 48, 48, 48, 48, 48, 101, 100, 99, 98, 97, 83, 83, 83, 83, 83, 48, 48, 49, 68, 68, 68, 68, 68, 48, 48, 49, 48, 48, 49, 49]⟩, 0) else
 bif op == 26 then (op, ⟨#[48, 48, 48, 48, 48, 48, 48, 101, 100, 99, 98, 97, 83, 83, 83, 83, 83, 49, 48, 49, 68, 68, 68, 68, 68, 48, 48, 49, 48, 48, 49, 49]⟩, 0) else
 bif op == 27 then (op, ⟨#[48, 49, 48, 48, 48, 48, 48, 101, 100, 99, 98, 97, 83, 83, 83, 83, 83, 49, 48, 49, 68, 68, 68, 68, 68, 48, 48, 49, 48, 48, 49, 49]⟩, 0) else
 (0, ⟨#[]⟩, 0)
def registerRow (op : Int) : Int × ByteArray × Int :=
 bif op == 28 then (op, ⟨#[48, 48, 48, 48, 48, 48, 48, 84, 84, 84, 84, 84, 83, 83, 83, 83, 83, 48, 48, 48, 68, 68, 68, 68, 68, 48, 49, 49, 48, 48, 49, 49]⟩, 0) else
 bif op == 29 then (op, ⟨#[48, 49, 48, 48, 48, 48, 48, 84, 84, 84, 84, 84, 83, 83, 83, 83, 83, 48, 48, 48, 68, 68, 68, 68, 68, 48, 49, 49, 48, 48, 49, 49]⟩, 0) else
 bif op == 30 then (op, ⟨#[48, 48, 48, 48, 48, 48, 48, 84, 84, 84, 84, 84, 83, 83, 83, 83, 83, 48, 48, 49, 68, 68, 68, 68, 68, 48, 49, 49, 48, 48, 49, 49]⟩, 0) else
 bif op == 31 then (op, ⟨#[48, 48, 48, 48, 48, 48, 48, 84, 84, 84, 84, 84, 83, 83, 83, 83, 83, 48, 49, 48, 68, 68, 68, 68, 68, 48, 49, 49, 48, 48, 49, 49]⟩, 0) else
 bif op == 32 then (op, ⟨#[48, 48, 48, 48, 48, 48, 48, 84, 84, 84, 84, 84, 83, 83, 83, 83, 83, 48, 49, 49, 68, 68, 68, 68, 68, 48, 49, 49, 48, 48, 49, 49]⟩, 0) else
 bif op == 33 then (op, ⟨#[48, 48, 48, 48, 48, 48, 48, 84, 84, 84, 84, 84, 83, 83, 83, 83, 83, 49, 48, 48, 68, 68, 68, 68, 68, 48, 49, 49, 48, 48, 49, 49]⟩, 0) else
 bif op == 34 then (op, ⟨#[48, 48, 48, 48, 48, 48, 48, 84, 84, 84, 84, 84, 83, 83, 83, 83, 83, 49, 48, 49, 68, 68, 68, 68, 68, 48, 49, 49, 48, 48, 49, 49]⟩, 0) else
 bif op == 35 then (op, ⟨#[48, 49, 48, 48, 48, 48, 48, 84, 84, 84, 84, 84, 83, 83, 83, 83, 83, 49, 48, 49, 68, 68, 68, 68, 68, 48, 49, 49, 48, 48, 49, 49]⟩, 0) else
 bif op == 36 then (op, ⟨#[48, 48, 48, 48, 48, 48, 48, 84, 84, 84, 84, 84, 83, 83, 83, 83, 83, 49, 49, 48, 68, 68, 68, 68, 68, 48, 49, 49, 48, 48, 49, 49]⟩, 0) else
 bif op == 37 then (op, ⟨#[48, 48, 48, 48, 48, 48, 48, 84, 84, 84, 84, 84, 83, 83, 83, 83, 83, 49, 49, 49, 68, 68, 68, 68, 68, 48, 49, 49, 48, 48, 49, 49]⟩, 0) else
 (0, ⟨#[]⟩, 0)
def fenceRow (op : Int) : Int × ByteArray × Int :=
 bif op == 38 then (op, ⟨#[108, 107, 106, 105, 104, 103, 102, 101, 100, 99, 98, 97, 83, 83, 83, 83, 83, 48, 48, 48, 68, 68, 68, 68, 68, 48, 48, 48, 49, 49, 49, 49]⟩, 1) else
 bif op == 39 then (op, ⟨#[108, 107, 106, 105, 104, 103, 102, 101, 100, 99, 98, 97, 83, 83, 83, 83, 83, 48, 48, 49, 68, 68, 68, 68, 68, 48, 48, 48, 49, 49, 49, 49]⟩, 1) else
 bif op == 40 then (op, ⟨#[48, 48, 48, 48, 48, 48, 48, 48, 48, 48, 48, 48, 48, 48, 48, 48, 48, 48, 48, 48, 48, 48, 48, 48, 48, 49, 49, 49, 48, 48, 49, 49]⟩, 0) else
 bif op == 41 then (op, ⟨#[48, 48, 48, 48, 48, 48, 48, 48, 48, 48, 48, 49, 48, 48, 48, 48, 48, 48, 48, 48, 48, 48, 48, 48, 48, 49, 49, 49, 48, 48, 49, 49]⟩, 0) else
 (0, ⟨#[]⟩, 0)
def productRow (op : Int) : Int × ByteArray × Int :=
 bif op == 42 then (op, ⟨#[48, 48, 48, 48, 48, 48, 49, 84, 84, 84, 84, 84, 83, 83, 83, 83, 83, 48, 48, 48, 68, 68, 68, 68, 68, 48, 49, 49, 48, 48, 49, 49]⟩, 0) else
 bif op == 43 then (op, ⟨#[48, 48, 48, 48, 48, 48, 49, 84, 84, 84, 84, 84, 83, 83, 83, 83, 83, 48, 48, 49, 68, 68, 68, 68, 68, 48, 49, 49, 48, 48, 49, 49]⟩, 0) else
 bif op == 44 then (op, ⟨#[48, 48, 48, 48, 48, 48, 49, 84, 84, 84, 84, 84, 83, 83, 83, 83, 83, 48, 49, 48, 68, 68, 68, 68, 68, 48, 49, 49, 48, 48, 49, 49]⟩, 0) else
 bif op == 45 then (op, ⟨#[48, 48, 48, 48, 48, 48, 49, 84, 84, 84, 84, 84, 83, 83, 83, 83, 83, 48, 49, 49, 68, 68, 68, 68, 68, 48, 49, 49, 48, 48, 49, 49]⟩, 0) else
 bif op == 46 then (op, ⟨#[48, 48, 48, 48, 48, 48, 49, 84, 84, 84, 84, 84, 83, 83, 83, 83, 83, 49, 48, 48, 68, 68, 68, 68, 68, 48, 49, 49, 48, 48, 49, 49]⟩, 0) else
 bif op == 47 then (op, ⟨#[48, 48, 48, 48, 48, 48, 49, 84, 84, 84, 84, 84, 83, 83, 83, 83, 83, 49, 48, 49, 68, 68, 68, 68, 68, 48, 49, 49, 48, 48, 49, 49]⟩, 0) else
 bif op == 48 then (op, ⟨#[48, 48, 48, 48, 48, 48, 49, 84, 84, 84, 84, 84, 83, 83, 83, 83, 83, 49, 49, 48, 68, 68, 68, 68, 68, 48, 49, 49, 48, 48, 49, 49]⟩, 0) else
 bif op == 49 then (op, ⟨#[48, 48, 48, 48, 48, 48, 49, 84, 84, 84, 84, 84, 83, 83, 83, 83, 83, 49, 49, 49, 68, 68, 68, 68, 68, 48, 49, 49, 48, 48, 49, 49]⟩, 0) else
 (0, ⟨#[]⟩, 0)
def atomicRow (op : Int) : Int × ByteArray × Int :=
 bif op == 50 then (op, ⟨#[48, 48, 48, 49, 48, 98, 97, 48, 48, 48, 48, 48, 83, 83, 83, 83, 83, 48, 49, 48, 68, 68, 68, 68, 68, 48, 49, 48, 49, 49, 49, 49]⟩, 0) else
 bif op == 51 then (op, ⟨#[48, 48, 48, 49, 49, 98, 97, 84, 84, 84, 84, 84, 83, 83, 83, 83, 83, 48, 49, 48, 68, 68, 68, 68, 68, 48, 49, 48, 49, 49, 49, 49]⟩, 0) else
 bif op == 52 then (op, ⟨#[48, 48, 48, 48, 49, 98, 97, 84, 84, 84, 84, 84, 83, 83, 83, 83, 83, 48, 49, 48, 68, 68, 68, 68, 68, 48, 49, 48, 49, 49, 49, 49]⟩, 0) else
 bif op == 53 then (op, ⟨#[48, 48, 48, 48, 48, 98, 97, 84, 84, 84, 84, 84, 83, 83, 83, 83, 83, 48, 49, 48, 68, 68, 68, 68, 68, 48, 49, 48, 49, 49, 49, 49]⟩, 0) else
 bif op == 54 then (op, ⟨#[48, 48, 49, 48, 48, 98, 97, 84, 84, 84, 84, 84, 83, 83, 83, 83, 83, 48, 49, 48, 68, 68, 68, 68, 68, 48, 49, 48, 49, 49, 49, 49]⟩, 0) else
 bif op == 55 then (op, ⟨#[48, 49, 49, 48, 48, 98, 97, 84, 84, 84, 84, 84, 83, 83, 83, 83, 83, 48, 49, 48, 68, 68, 68, 68, 68, 48, 49, 48, 49, 49, 49, 49]⟩, 0) else
 bif op == 56 then (op, ⟨#[48, 49, 48, 48, 48, 98, 97, 84, 84, 84, 84, 84, 83, 83, 83, 83, 83, 48, 49, 48, 68, 68, 68, 68, 68, 48, 49, 48, 49, 49, 49, 49]⟩, 0) else
 bif op == 57 then (op, ⟨#[49, 48, 48, 48, 48, 98, 97, 84, 84, 84, 84, 84, 83, 83, 83, 83, 83, 48, 49, 48, 68, 68, 68, 68, 68, 48, 49, 48, 49, 49, 49, 49]⟩, 0) else
 bif op == 58 then (op, ⟨#[49, 48, 49, 48, 48, 98, 97, 84, 84, 84, 84, 84, 83, 83, 83, 83, 83, 48, 49, 48, 68, 68, 68, 68, 68, 48, 49, 48, 49, 49, 49, 49]⟩, 0) else
 bif op == 59 then (op, ⟨#[49, 49, 48, 48, 48, 98, 97, 84, 84, 84, 84, 84, 83, 83, 83, 83, 83, 48, 49, 48, 68, 68, 68, 68, 68, 48, 49, 48, 49, 49, 49, 49]⟩, 0) else
 bif op == 60 then (op, ⟨#[49, 49, 49, 48, 48, 98, 97, 84, 84, 84, 84, 84, 83, 83, 83, 83, 83, 48, 49, 48, 68, 68, 68, 68, 68, 48, 49, 48, 49, 49, 49, 49]⟩, 0) else
 (0, ⟨#[]⟩, 0)
def systemRow (op : Int) : Int × ByteArray × Int :=
 bif op == 61 then (op, ⟨#[108, 107, 106, 105, 104, 103, 102, 101, 100, 99, 98, 97, 83, 83, 83, 83, 83, 48, 48, 49, 68, 68, 68, 68, 68, 49, 49, 49, 48, 48, 49, 49]⟩, 0) else
 bif op == 62 then (op, ⟨#[108, 107, 106, 105, 104, 103, 102, 101, 100, 99, 98, 97, 83, 83, 83, 83, 83, 48, 49, 48, 68, 68, 68, 68, 68, 49, 49, 49, 48, 48, 49, 49]⟩, 0) else
 bif op == 63 then (op, ⟨#[108, 107, 106, 105, 104, 103, 102, 101, 100, 99, 98, 97, 83, 83, 83, 83, 83, 48, 49, 49, 68, 68, 68, 68, 68, 49, 49, 49, 48, 48, 49, 49]⟩, 0) else
 bif op == 64 then (op, ⟨#[108, 107, 106, 105, 104, 103, 102, 101, 100, 99, 98, 97, 83, 83, 83, 83, 83, 49, 48, 49, 68, 68, 68, 68, 68, 49, 49, 49, 48, 48, 49, 49]⟩, 0) else
 bif op == 65 then (op, ⟨#[108, 107, 106, 105, 104, 103, 102, 101, 100, 99, 98, 97, 83, 83, 83, 83, 83, 49, 49, 48, 68, 68, 68, 68, 68, 49, 49, 49, 48, 48, 49, 49]⟩, 0) else
 bif op == 66 then (op, ⟨#[108, 107, 106, 105, 104, 103, 102, 101, 100, 99, 98, 97, 83, 83, 83, 83, 83, 49, 49, 49, 68, 68, 68, 68, 68, 49, 49, 49, 48, 48, 49, 49]⟩, 0) else
 bif op == 67 then (op, ⟨#[48, 48, 49, 49, 48, 48, 48, 48, 48, 48, 49, 48, 48, 48, 48, 48, 48, 48, 48, 48, 48, 48, 48, 48, 48, 49, 49, 49, 48, 48, 49, 49]⟩, 0) else
 bif op == 68 then (op, ⟨#[48, 48, 48, 49, 48, 48, 48, 48, 48, 48, 49, 48, 48, 48, 48, 48, 48, 48, 48, 48, 48, 48, 48, 48, 48, 49, 49, 49, 48, 48, 49, 49]⟩, 0) else
 bif op == 69 then (op, ⟨#[48, 48, 48, 49, 48, 48, 48, 48, 48, 49, 48, 49, 48, 48, 48, 48, 48, 48, 48, 48, 48, 48, 48, 48, 48, 49, 49, 49, 48, 48, 49, 49]⟩, 0) else
 bif op == 70 then (op, ⟨#[48, 48, 48, 49, 48, 48, 49, 84, 84, 84, 84, 84, 83, 83, 83, 83, 83, 48, 48, 48, 48, 48, 48, 48, 48, 49, 49, 49, 48, 48, 49, 49]⟩, 0) else
 (0, ⟨#[]⟩, 0)
def shortRow00 (op : Int) : Int × ByteArray × Int :=
 bif op == 1 then (19, ⟨#[48, 48, 48, 102, 101, 106, 105, 104, 103, 99, 100, 68, 68, 68, 48, 48]⟩, 24) else
 bif op == 2 then (13, ⟨#[48, 49, 48, 102, 101, 100, 83, 83, 83, 99, 103, 68, 68, 68, 48, 48]⟩, 0) else
 bif op == 3 then (18, ⟨#[49, 49, 48, 102, 101, 100, 83, 83, 83, 99, 103, 84, 84, 84, 48, 48]⟩, 0) else
 (0, ⟨#[]⟩, 0)
def shortRow01 (op : Int) : Int × ByteArray × Int :=
 bif op == 4 then (19, ⟨#[48, 48, 48, 102, 66, 66, 66, 66, 66, 101, 100, 99, 98, 97, 48, 49]⟩, 1) else
 bif op == 5 then (3, ⟨#[48, 48, 49, 108, 101, 106, 105, 107, 103, 104, 100, 99, 98, 102, 48, 49]⟩, 3) else
 bif op == 6 then (19, ⟨#[48, 49, 48, 102, 68, 68, 68, 68, 68, 101, 100, 99, 98, 97, 48, 49]⟩, 1) else
 bif op == 7 then (19, ⟨#[48, 49, 49, 106, 48, 48, 48, 49, 48, 101, 103, 105, 104, 102, 48, 49]⟩, 29) else
 bif op == 8 then (1, ⟨#[48, 49, 49, 102, 68, 68, 68, 68, 68, 101, 100, 99, 98, 97, 48, 49]⟩, 273) else
 bif op == 9 then (26, ⟨#[49, 48, 48, 48, 48, 48, 66, 66, 66, 101, 100, 99, 98, 97, 48, 49]⟩, 0) else
 bif op == 10 then (27, ⟨#[49, 48, 48, 48, 48, 49, 66, 66, 66, 101, 100, 99, 98, 97, 48, 49]⟩, 0) else
 bif op == 11 then (24, ⟨#[49, 48, 48, 102, 49, 48, 66, 66, 66, 101, 100, 99, 98, 97, 48, 49]⟩, 1) else
 bif op == 12 then (29, ⟨#[49, 48, 48, 48, 49, 49, 66, 66, 66, 48, 48, 84, 84, 84, 48, 49]⟩, 0) else
 bif op == 13 then (33, ⟨#[49, 48, 48, 48, 49, 49, 66, 66, 66, 48, 49, 84, 84, 84, 48, 49]⟩, 0) else
 bif op == 14 then (36, ⟨#[49, 48, 48, 48, 49, 49, 66, 66, 66, 49, 48, 84, 84, 84, 48, 49]⟩, 0) else
 bif op == 15 then (37, ⟨#[49, 48, 48, 48, 49, 49, 66, 66, 66, 49, 49, 84, 84, 84, 48, 49]⟩, 0) else
 bif op == 16 then (3, ⟨#[49, 48, 49, 108, 101, 106, 105, 107, 103, 104, 100, 99, 98, 102, 48, 49]⟩, 1) else
 bif op == 17 then (5, ⟨#[49, 49, 48, 105, 101, 100, 83, 83, 83, 104, 103, 99, 98, 102, 48, 49]⟩, 1) else
 bif op == 18 then (6, ⟨#[49, 49, 49, 105, 101, 100, 83, 83, 83, 104, 103, 99, 98, 102, 48, 49]⟩, 1) else
 (0, ⟨#[]⟩, 0)
def shortRow10 (op : Int) : Int × ByteArray × Int :=
 bif op == 19 then (25, ⟨#[48, 48, 48, 48, 66, 66, 66, 66, 66, 101, 100, 99, 98, 97, 49, 48]⟩, 0) else
 bif op == 20 then (13, ⟨#[48, 49, 48, 102, 68, 68, 68, 68, 68, 101, 100, 99, 104, 103, 49, 48]⟩, 40) else
 bif op == 21 then (4, ⟨#[49, 48, 48, 48, 83, 83, 83, 83, 83, 48, 48, 48, 48, 48, 49, 48]⟩, 64) else
 bif op == 22 then (28, ⟨#[49, 48, 48, 48, 68, 68, 68, 68, 68, 84, 84, 84, 84, 84, 49, 48]⟩, 128) else
 bif op == 23 then (41, ⟨#[49, 48, 48, 49, 48, 48, 48, 48, 48, 48, 48, 48, 48, 48, 49, 48]⟩, 0) else
 bif op == 24 then (4, ⟨#[49, 48, 48, 49, 83, 83, 83, 83, 83, 48, 48, 48, 48, 48, 49, 48]⟩, 66) else
 bif op == 25 then (28, ⟨#[49, 48, 48, 49, 66, 66, 66, 66, 66, 84, 84, 84, 84, 84, 49, 48]⟩, 128) else
 bif op == 26 then (18, ⟨#[49, 49, 48, 102, 101, 100, 99, 104, 103, 84, 84, 84, 84, 84, 49, 48]⟩, 8) else
 (0, ⟨#[]⟩, 0)
def longRow (op : Int) : Int × ByteArray × Int :=
 bif decide (op <= 2) then upperRow op else
 bif decide (op <= 10) then jumpRow op else
 bif decide (op <= 18) then memoryRow op else
 bif decide (op <= 27) then immediateRow op else
 bif decide (op <= 37) then registerRow op else
 bif decide (op <= 41) then fenceRow op else
 bif decide (op <= 49) then productRow op else
 bif decide (op <= 60) then atomicRow op else
 systemRow op
def shortRow (op : Int) : Int × ByteArray × Int :=
 bif decide (op <= 3) then shortRow00 op else
 bif decide (op <= 18) then shortRow01 op else
 shortRow10 op
end Tab
def rowV (t : Int × ByteArray × Int) : Value := .agg #[.int .i64 t.1, .string t.2.1, .int .i64 t.2.2]
theorem i_upperRow (op : Int) (w : World) :
 CB 284 #[.int .i64 op] (rowV (Tab.upperRow op)) w := by
 go_enter func284, ntmps284
 go_wp2
 all_goals exact bodyPost_ret (v := rowV (Tab.upperRow op)) (by simp [results, results284, go_sem, rowV, Tab.upperRow, *]) rfl ⟨rfl, by repeat (first | exact Below.refl _ _ | refine Below.setCell ?_ (by simp) _ | refine Below.alloc ?_ (by simp) _)⟩
theorem i_jumpRow (op : Int) (w : World) :
 CB 285 #[.int .i64 op] (rowV (Tab.jumpRow op)) w := by
 go_enter func285, ntmps285
 go_wp2
 all_goals exact bodyPost_ret (v := rowV (Tab.jumpRow op)) (by simp [results, results285, go_sem, rowV, Tab.jumpRow, *]) rfl ⟨rfl, by repeat (first | exact Below.refl _ _ | refine Below.setCell ?_ (by simp) _ | refine Below.alloc ?_ (by simp) _)⟩
theorem i_memoryRow (op : Int) (w : World) :
 CB 286 #[.int .i64 op] (rowV (Tab.memoryRow op)) w := by
 go_enter func286, ntmps286
 go_wp2
 all_goals exact bodyPost_ret (v := rowV (Tab.memoryRow op)) (by simp [results, results286, go_sem, rowV, Tab.memoryRow, *]) rfl ⟨rfl, by repeat (first | exact Below.refl _ _ | refine Below.setCell ?_ (by simp) _ | refine Below.alloc ?_ (by simp) _)⟩
theorem i_immediateRow (op : Int) (w : World) :
 CB 287 #[.int .i64 op] (rowV (Tab.immediateRow op)) w := by
 go_enter func287, ntmps287
 go_wp2
 all_goals exact bodyPost_ret (v := rowV (Tab.immediateRow op)) (by simp [results, results287, go_sem, rowV, Tab.immediateRow, *]) rfl ⟨rfl, by repeat (first | exact Below.refl _ _ | refine Below.setCell ?_ (by simp) _ | refine Below.alloc ?_ (by simp) _)⟩
theorem i_registerRow (op : Int) (w : World) :
 CB 288 #[.int .i64 op] (rowV (Tab.registerRow op)) w := by
 go_enter func288, ntmps288
 go_wp2
 all_goals exact bodyPost_ret (v := rowV (Tab.registerRow op)) (by simp [results, results288, go_sem, rowV, Tab.registerRow, *]) rfl ⟨rfl, by repeat (first | exact Below.refl _ _ | refine Below.setCell ?_ (by simp) _ | refine Below.alloc ?_ (by simp) _)⟩
theorem i_fenceRow (op : Int) (w : World) :
 CB 289 #[.int .i64 op] (rowV (Tab.fenceRow op)) w := by
 go_enter func289, ntmps289
 go_wp2
 all_goals exact bodyPost_ret (v := rowV (Tab.fenceRow op)) (by simp [results, results289, go_sem, rowV, Tab.fenceRow, *]) rfl ⟨rfl, by repeat (first | exact Below.refl _ _ | refine Below.setCell ?_ (by simp) _ | refine Below.alloc ?_ (by simp) _)⟩
theorem i_productRow (op : Int) (w : World) :
 CB 290 #[.int .i64 op] (rowV (Tab.productRow op)) w := by
 go_enter func290, ntmps290
 go_wp2
 all_goals exact bodyPost_ret (v := rowV (Tab.productRow op)) (by simp [results, results290, go_sem, rowV, Tab.productRow, *]) rfl ⟨rfl, by repeat (first | exact Below.refl _ _ | refine Below.setCell ?_ (by simp) _ | refine Below.alloc ?_ (by simp) _)⟩
theorem i_atomicRow (op : Int) (w : World) :
 CB 291 #[.int .i64 op] (rowV (Tab.atomicRow op)) w := by
 go_enter func291, ntmps291
 go_wp2
 all_goals exact bodyPost_ret (v := rowV (Tab.atomicRow op)) (by simp [results, results291, go_sem, rowV, Tab.atomicRow, *]) rfl ⟨rfl, by repeat (first | exact Below.refl _ _ | refine Below.setCell ?_ (by simp) _ | refine Below.alloc ?_ (by simp) _)⟩
theorem i_systemRow (op : Int) (w : World) :
 CB 292 #[.int .i64 op] (rowV (Tab.systemRow op)) w := by
 go_enter func292, ntmps292
 go_wp2
 all_goals exact bodyPost_ret (v := rowV (Tab.systemRow op)) (by simp [results, results292, go_sem, rowV, Tab.systemRow, *]) rfl ⟨rfl, by repeat (first | exact Below.refl _ _ | refine Below.setCell ?_ (by simp) _ | refine Below.alloc ?_ (by simp) _)⟩
theorem i_shortRow00 (op : Int) (w : World) :
 CB 293 #[.int .i64 op] (rowV (Tab.shortRow00 op)) w := by
 go_enter func293, ntmps293
 go_wp2
 all_goals exact bodyPost_ret (v := rowV (Tab.shortRow00 op)) (by simp [results, results293, go_sem, rowV, Tab.shortRow00, *]) rfl ⟨rfl, by repeat (first | exact Below.refl _ _ | refine Below.setCell ?_ (by simp) _ | refine Below.alloc ?_ (by simp) _)⟩
theorem i_shortRow01 (op : Int) (w : World) :
 CB 294 #[.int .i64 op] (rowV (Tab.shortRow01 op)) w := by
 go_enter func294, ntmps294
 go_wp2
 all_goals exact bodyPost_ret (v := rowV (Tab.shortRow01 op)) (by simp [results, results294, go_sem, rowV, Tab.shortRow01, *]) rfl ⟨rfl, by repeat (first | exact Below.refl _ _ | refine Below.setCell ?_ (by simp) _ | refine Below.alloc ?_ (by simp) _)⟩
theorem i_shortRow10 (op : Int) (w : World) :
 CB 295 #[.int .i64 op] (rowV (Tab.shortRow10 op)) w := by
 go_enter func295, ntmps295
 go_wp2
 all_goals exact bodyPost_ret (v := rowV (Tab.shortRow10 op)) (by simp [results, results295, go_sem, rowV, Tab.shortRow10, *]) rfl ⟨rfl, by repeat (first | exact Below.refl _ _ | refine Below.setCell ?_ (by simp) _ | refine Below.alloc ?_ (by simp) _)⟩
theorem bcell {W w1 : World} (hb : Below W.heap.size W w1) : (∀ b o, b < W.heap.size -> w1.cell? ⟨b, o, none⟩ = W.cell? ⟨b, o, none⟩) /\ (∀ b o, b < W.heap.size -> w1.frozen? ⟨b, o, none⟩ = W.frozen? ⟨b, o, none⟩) :=
 ⟨fun b o h => hb.cell (p := ⟨b, o, none⟩) h, fun b o h => hb.frozen (p := ⟨b, o, none⟩) h⟩
theorem below3 {w w1 : World} {o : Obj} (hb1 : Below (w.alloc o).heap.size (w.alloc o) w1) (a b c : Addr) (x y z : Value) (ha : w.heap.size <= a.block) (hb : w.heap.size <= b.block) (hc : w.heap.size <= c.block) :
 Below w.heap.size w (((w1.setCell a x).setCell b y).setCell c z) := by
 have h0 : Below w.heap.size w w1 := ((Below.refl _ _).alloc (Nat.le_refl _) _).trans (hb1.mono (by simp))
 exact ((h0.setCell ha _).setCell hb _).setCell hc _
theorem i_longRow_upperRow (op : Int) (h2 : op <= 2) (w : World) :
 CB 206 #[.int .i64 op] (rowV (Tab.upperRow op)) w := by
 go_enter func206, ntmps206
 go_wp2_with fail
 refine (i_upperRow op _).mono ?_
 rintro e w1 ⟨rfl, hb1⟩
 obtain ⟨hc, hf⟩ := bcell hb1
 have hz : w.heap.size < w1.heap.size := zq43
 simp only [rowV]
 go_wp2
 exact bodyPost_ret (v := rowV (Tab.upperRow op)) zq510 rfl ⟨rfl, below3 hb1 _ _ _ _ _ _ (by simp) (by simp) (by simp)⟩
theorem i_longRow_jumpRow (op : Int) (h1 : 3 <= op) (h2 : op <= 10) (w : World) :
 CB 206 #[.int .i64 op] (rowV (Tab.jumpRow op)) w := by
 go_enter func206, ntmps206
 go_wp2_with fail
 refine (i_jumpRow op _).mono ?_
 rintro e w1 ⟨rfl, hb1⟩
 obtain ⟨hc, hf⟩ := bcell hb1
 have hz : w.heap.size < w1.heap.size := zq43
 simp only [rowV]
 go_wp2
 exact bodyPost_ret (v := rowV (Tab.jumpRow op)) zq510 rfl ⟨rfl, below3 hb1 _ _ _ _ _ _ (by simp) (by simp) (by simp)⟩
theorem i_longRow_memoryRow (op : Int) (h1 : 11 <= op) (h2 : op <= 18) (w : World) :
 CB 206 #[.int .i64 op] (rowV (Tab.memoryRow op)) w := by
 go_enter func206, ntmps206
 go_wp2_with fail
 refine (i_memoryRow op _).mono ?_
 rintro e w1 ⟨rfl, hb1⟩
 obtain ⟨hc, hf⟩ := bcell hb1
 have hz : w.heap.size < w1.heap.size := zq43
 simp only [rowV]
 go_wp2
 exact bodyPost_ret (v := rowV (Tab.memoryRow op)) zq510 rfl ⟨rfl, below3 hb1 _ _ _ _ _ _ (by simp) (by simp) (by simp)⟩
theorem i_longRow_immediateRow (op : Int) (h1 : 19 <= op) (h2 : op <= 27) (w : World) :
 CB 206 #[.int .i64 op] (rowV (Tab.immediateRow op)) w := by
 go_enter func206, ntmps206
 go_wp2_with fail
 refine (i_immediateRow op _).mono ?_
 rintro e w1 ⟨rfl, hb1⟩
 obtain ⟨hc, hf⟩ := bcell hb1
 have hz : w.heap.size < w1.heap.size := zq43
 simp only [rowV]
 go_wp2
 exact bodyPost_ret (v := rowV (Tab.immediateRow op)) zq510 rfl ⟨rfl, below3 hb1 _ _ _ _ _ _ (by simp) (by simp) (by simp)⟩
theorem i_longRow_registerRow (op : Int) (h1 : 28 <= op) (h2 : op <= 37) (w : World) :
 CB 206 #[.int .i64 op] (rowV (Tab.registerRow op)) w := by
 go_enter func206, ntmps206
 go_wp2_with fail
 refine (i_registerRow op _).mono ?_
 rintro e w1 ⟨rfl, hb1⟩
 obtain ⟨hc, hf⟩ := bcell hb1
 have hz : w.heap.size < w1.heap.size := zq43
 simp only [rowV]
 go_wp2
 exact bodyPost_ret (v := rowV (Tab.registerRow op)) zq510 rfl ⟨rfl, below3 hb1 _ _ _ _ _ _ (by simp) (by simp) (by simp)⟩
theorem i_longRow_fenceRow (op : Int) (h1 : 38 <= op) (h2 : op <= 41) (w : World) :
 CB 206 #[.int .i64 op] (rowV (Tab.fenceRow op)) w := by
 go_enter func206, ntmps206
 go_wp2_with fail
 refine (i_fenceRow op _).mono ?_
 rintro e w1 ⟨rfl, hb1⟩
 obtain ⟨hc, hf⟩ := bcell hb1
 have hz : w.heap.size < w1.heap.size := zq43
 simp only [rowV]
 go_wp2
 exact bodyPost_ret (v := rowV (Tab.fenceRow op)) zq510 rfl ⟨rfl, below3 hb1 _ _ _ _ _ _ (by simp) (by simp) (by simp)⟩
theorem i_longRow_productRow (op : Int) (h1 : 42 <= op) (h2 : op <= 49) (w : World) :
 CB 206 #[.int .i64 op] (rowV (Tab.productRow op)) w := by
 go_enter func206, ntmps206
 go_wp2_with fail
 refine (i_productRow op _).mono ?_
 rintro e w1 ⟨rfl, hb1⟩
 obtain ⟨hc, hf⟩ := bcell hb1
 have hz : w.heap.size < w1.heap.size := zq43
 simp only [rowV]
 go_wp2
 exact bodyPost_ret (v := rowV (Tab.productRow op)) zq510 rfl ⟨rfl, below3 hb1 _ _ _ _ _ _ (by simp) (by simp) (by simp)⟩
theorem i_longRow_atomicRow (op : Int) (h1 : 50 <= op) (h2 : op <= 60) (w : World) :
 CB 206 #[.int .i64 op] (rowV (Tab.atomicRow op)) w := by
 go_enter func206, ntmps206
 go_wp2_with fail
 refine (i_atomicRow op _).mono ?_
 rintro e w1 ⟨rfl, hb1⟩
 obtain ⟨hc, hf⟩ := bcell hb1
 have hz : w.heap.size < w1.heap.size := zq43
 simp only [rowV]
 go_wp2
 exact bodyPost_ret (v := rowV (Tab.atomicRow op)) zq510 rfl ⟨rfl, below3 hb1 _ _ _ _ _ _ (by simp) (by simp) (by simp)⟩
theorem i_longRow_systemRow (op : Int) (h1 : 61 <= op) (w : World) :
 CB 206 #[.int .i64 op] (rowV (Tab.systemRow op)) w := by
 go_enter func206, ntmps206
 go_wp2_with fail
 refine (i_systemRow op _).mono ?_
 rintro e w1 ⟨rfl, hb1⟩
 obtain ⟨hc, hf⟩ := bcell hb1
 have hz : w.heap.size < w1.heap.size := zq43
 simp only [rowV]
 go_wp2
 exact bodyPost_ret (v := rowV (Tab.systemRow op)) zq510 rfl ⟨rfl, below3 hb1 _ _ _ _ _ _ (by simp) (by simp) (by simp)⟩
theorem i_longRow (op : Int) (w : World) :
 CB 206 #[.int .i64 op] (rowV (Tab.longRow op)) w := by
 unfold Tab.longRow
 by_cases c0 : op <= 2
 . rw [decide_eq_true c0, cond_true]; exact i_longRow_upperRow op c0 w
 by_cases c1 : op <= 10
 . rw [decide_eq_false c0, cond_false, decide_eq_true c1, cond_true]; exact i_longRow_jumpRow op (by omega) c1 w
 by_cases c2 : op <= 18
 . rw [decide_eq_false c0, cond_false, decide_eq_false c1, cond_false, decide_eq_true c2, cond_true]; exact i_longRow_memoryRow op (by omega) c2 w
 by_cases c3 : op <= 27
 . rw [decide_eq_false c0, cond_false, decide_eq_false c1, cond_false, decide_eq_false c2, cond_false, decide_eq_true c3, cond_true]; exact i_longRow_immediateRow op (by omega) c3 w
 by_cases c4 : op <= 37
 . rw [decide_eq_false c0, cond_false, decide_eq_false c1, cond_false, decide_eq_false c2, cond_false, decide_eq_false c3, cond_false, decide_eq_true c4, cond_true]; exact i_longRow_registerRow op (by omega) c4 w
 by_cases c5 : op <= 41
 . rw [decide_eq_false c0, cond_false, decide_eq_false c1, cond_false, decide_eq_false c2, cond_false, decide_eq_false c3, cond_false, decide_eq_false c4, cond_false, decide_eq_true c5, cond_true]; exact i_longRow_fenceRow op (by omega) c5 w
 by_cases c6 : op <= 49
 . rw [decide_eq_false c0, cond_false, decide_eq_false c1, cond_false, decide_eq_false c2, cond_false, decide_eq_false c3, cond_false, decide_eq_false c4, cond_false, decide_eq_false c5, cond_false, decide_eq_true c6, cond_true]; exact i_longRow_productRow op (by omega) c6 w
 by_cases c7 : op <= 60
 . rw [decide_eq_false c0, cond_false, decide_eq_false c1, cond_false, decide_eq_false c2, cond_false, decide_eq_false c3, cond_false, decide_eq_false c4, cond_false, decide_eq_false c5, cond_false, decide_eq_false c6, cond_false, decide_eq_true c7, cond_true]; exact i_longRow_atomicRow op (by omega) c7 w
 rw [decide_eq_false c0, cond_false, decide_eq_false c1, cond_false, decide_eq_false c2, cond_false, decide_eq_false c3, cond_false, decide_eq_false c4, cond_false, decide_eq_false c5, cond_false, decide_eq_false c6, cond_false, decide_eq_false c7, cond_false]
 exact i_longRow_systemRow op (by omega) w
theorem i_shortRow_shortRow00 (op : Int) (h2 : op <= 3) (w : World) :
 CB 207 #[.int .i64 op] (rowV (Tab.shortRow00 op)) w := by
 go_enter func207, ntmps207
 go_wp2_with fail
 refine (i_shortRow00 op _).mono ?_
 rintro e w1 ⟨rfl, hb1⟩
 obtain ⟨hc, hf⟩ := bcell hb1
 have hz : w.heap.size < w1.heap.size := zq43
 simp only [rowV]
 go_wp2
 exact bodyPost_ret (v := rowV (Tab.shortRow00 op)) zq511 rfl ⟨rfl, below3 hb1 _ _ _ _ _ _ (by simp) (by simp) (by simp)⟩
theorem i_shortRow_shortRow01 (op : Int) (h1 : 4 <= op) (h2 : op <= 18) (w : World) :
 CB 207 #[.int .i64 op] (rowV (Tab.shortRow01 op)) w := by
 go_enter func207, ntmps207
 go_wp2_with fail
 refine (i_shortRow01 op _).mono ?_
 rintro e w1 ⟨rfl, hb1⟩
 obtain ⟨hc, hf⟩ := bcell hb1
 have hz : w.heap.size < w1.heap.size := zq43
 simp only [rowV]
 go_wp2
 exact bodyPost_ret (v := rowV (Tab.shortRow01 op)) zq511 rfl ⟨rfl, below3 hb1 _ _ _ _ _ _ (by simp) (by simp) (by simp)⟩
theorem i_shortRow_shortRow10 (op : Int) (h1 : 19 <= op) (w : World) :
 CB 207 #[.int .i64 op] (rowV (Tab.shortRow10 op)) w := by
 go_enter func207, ntmps207
 go_wp2_with fail
 refine (i_shortRow10 op _).mono ?_
 rintro e w1 ⟨rfl, hb1⟩
 obtain ⟨hc, hf⟩ := bcell hb1
 have hz : w.heap.size < w1.heap.size := zq43
 simp only [rowV]
 go_wp2
 exact bodyPost_ret (v := rowV (Tab.shortRow10 op)) zq511 rfl ⟨rfl, below3 hb1 _ _ _ _ _ _ (by simp) (by simp) (by simp)⟩
theorem i_shortRow (op : Int) (w : World) :
 CB 207 #[.int .i64 op] (rowV (Tab.shortRow op)) w := by
 unfold Tab.shortRow
 by_cases c0 : op <= 3
 . rw [decide_eq_true c0, cond_true]; exact i_shortRow_shortRow00 op c0 w
 by_cases c1 : op <= 18
 . rw [decide_eq_false c0, cond_false, decide_eq_true c1, cond_true]; exact i_shortRow_shortRow01 op (by omega) c1 w
 rw [decide_eq_false c0, cond_false, decide_eq_false c1, cond_false]
 exact i_shortRow_shortRow10 op (by omega) w
def rowAt (size n : Int) : Int × ByteArray × Int := bif size == 4 then Tab.longRow n else Tab.shortRow n
theorem i_rowAt (size op : Int) (w : World) :
 CB 138 #[.int .i64 size, .int .i64 op] (rowV (rowAt size op)) w := by
 unfold rowAt
 cases h : (size == 4)
 . go_enter func138, ntmps138
   go_wp2_with fail
   refine (i_shortRow op _).mono ?_
   rintro e w1 ⟨rfl, hb1⟩
   obtain ⟨hc, hf⟩ := bcell hb1
   have hz : w.heap.size < w1.heap.size := zq43
   simp only [rowV]
   go_wp2
   exact bodyPost_ret (v := rowV (Tab.shortRow op)) zq512 rfl ⟨by simp [h], below3 hb1 _ _ _ _ _ _ (by simp) (by simp) (by simp)⟩
 . go_enter func138, ntmps138
   go_wp2_with fail
   refine (i_longRow op _).mono ?_
   rintro e w1 ⟨rfl, hb1⟩
   obtain ⟨hc, hf⟩ := bcell hb1
   have hz : w.heap.size < w1.heap.size := zq43
   simp only [rowV]
   go_wp2
   exact bodyPost_ret (v := rowV (Tab.longRow op)) zq512 rfl ⟨by simp [h], below3 hb1 _ _ _ _ _ _ (by simp) (by simp) (by simp)⟩
def hasB (r k : Int) : Bool := bits .and .i64 r k != 0
theorem i_has (a : Int) (s : ByteArray) (r k : Int) (w : World) :
 Calls prog 300 #[.agg #[.int .i64 a, .string s, .int .i64 r], .int .i64 k] w fun e w' => e = .returned (.bool (hasB r k)) /\ w.alloc (.cells #[.int .i64 a, .string s, .int .i64 r] 152) = w' := by
 go_enter func300, ntmps300
 exact zq195
def toldRd (r : Int) : Int := bif hasB r 2 then 1 else bif hasB r 4 then 2 else 0
def toldRs1 (r : Int) : Int := bif hasB r 8 then 2 else 0
theorem i_toldRd (a : Int) (s : ByteArray) (r : Int) (w : World) :
 CB 297 #[.agg #[.int .i64 a, .string s, .int .i64 r]] (.int .i64 (toldRd r)) w := by
 unfold toldRd
 go_enter func297, ntmps297
 go_wp2_with fail
 refine (i_has a s r 2 _).mono ?_
 rintro e w1 ⟨rfl, rfl⟩
 cases h2 : hasB r 2
 . go_wp2_with fail
   refine (i_has a s r 4 _).mono ?_
   rintro e w1 ⟨rfl, rfl⟩
   cases h4 : hasB r 4
   . exact zq253
   . exact zq253
 . exact zq254
theorem i_toldRs1 (a : Int) (s : ByteArray) (r : Int) (w : World) :
 CB 298 #[.agg #[.int .i64 a, .string s, .int .i64 r]] (.int .i64 (toldRs1 r)) w := by
 unfold toldRs1
 go_enter func298, ntmps298
 go_wp2_with fail
 refine (i_has a s r 8 _).mono ?_
 rintro e w1 ⟨rfl, rfl⟩
 cases h2 : hasB r 8
 . exact zq254
 . exact zq254
theorem reg_bd (s : ByteArray) (hs : s.size <= 32) (c : UInt8) (W : Nat) : regOf s c W <= 4294967304 := by
 have hlen : (Pic.rv s.data.toList s.size).length <= 32 := by rw [Pic.rv_length _ _ (by simp)]; exact hs
 have a := Pic.val_lt (· == c) (Pic.rv s.data.toList s.size) W
 have b := Pic.cnt_le (· == c) (Pic.rv s.data.toList s.size)
 have c2 : 2 ^ Pic.cnt (· == c) (Pic.rv s.data.toList s.size) <= 2 ^ 32 := zq4
 have d : (2 : Nat) ^ 32 = 4294967296 := by decide
 unfold regOf
 simp only
 split <;> omega
theorem told_bd (r : Int) : 0 <= toldRd r /\ toldRd r <= 2 /\ 0 <= toldRs1 r /\ toldRs1 r <= 2 := by
 unfold toldRd toldRs1
 cases hasB r 2 <;> cases hasB r 4 <;> cases hasB r 8 <;> simp
theorem i_read (a : Int) (s : ByteArray) (hs : s.size <= 32) (r : Int) (W : Nat) (hW : W < 4294967296) (w : World) :
 Calls prog 209 #[.agg #[.int .i64 a, .string s, .int .i64 r], .int .i64 W] w fun e w' =>
  e = .returned (.agg #[.int .i64 a, .int .i64 ((regOf s 68 W : Int) + regOf s 66 W + toldRd r), .int .i64 ((regOf s 83 W : Int) + regOf s 66 W + toldRs1 r), .int .i64 (regOf s 84 W), .int .i64 (immOf s (hasB r 1) W), .int .i64 ((s.size : Int) / 8)]) /\ Below w.heap.size w w' := by
 have b1 := reg_bd s hs 68 W
 have b2 := reg_bd s hs 66 W
 have b3 := reg_bd s hs 83 W
 have b4 := reg_bd s hs 84 W
 obtain ⟨t1, t2, t3, t4⟩ := told_bd r
 go_enter func209, ntmps209
 go_wp2_with fail
 refine (i_register s hs 66 W hW _).mono ?_
 rintro e w1 ⟨rfl, rfl⟩
 go_wp2_with fail
 refine (i_register s hs 68 W hW _).mono ?_
 rintro e w1 ⟨rfl, rfl⟩
 go_wp2_with fail
 refine (i_register s hs 83 W hW _).mono ?_
 rintro e w1 ⟨rfl, rfl⟩
 go_wp2_with fail
 refine (i_register s hs 84 W hW _).mono ?_
 rintro e w1 ⟨rfl, rfl⟩
 go_wp2_with fail
 refine (i_toldRd a s r _).mono ?_
 rintro e w1 ⟨rfl, hb1⟩
 obtain ⟨hc, hf⟩ := bcell hb1
 have hz : w.heap.size + 1 < w1.heap.size := zq43
 go_wp2_with fail
 refine (i_toldRs1 a s r _).mono ?_
 rintro e w2 ⟨rfl, hb2⟩
 obtain ⟨hc2, hf2⟩ := bcell hb2
 have hz2 : w.heap.size + 1 < w2.heap.size := by have := hb2.size; omega
 have hz3 : w.heap.size < w2.heap.size := by omega
 have q0 : w2.cell? ⟨w.heap.size, 0, none⟩ = some (.int .i64 a) := zq44
 have q1 : w2.cell? ⟨w.heap.size, 1, none⟩ = some (.string s) := zq44
 have q2 : w2.cell? ⟨w.heap.size, 2, none⟩ = some (.int .i64 r) := zq44
 have z0 : w2.cell? ⟨w.heap.size + 1, 0, none⟩ = some (.int .i64 0) := zq45
 have z1 : w2.cell? ⟨w.heap.size + 1, 1, none⟩ = some (.int .i64 0) := zq45
 have z2 : w2.cell? ⟨w.heap.size + 1, 2, none⟩ = some (.int .i64 0) := zq45
 have z3 : w2.cell? ⟨w.heap.size + 1, 3, none⟩ = some (.int .i64 0) := zq45
 have z4 : w2.cell? ⟨w.heap.size + 1, 4, none⟩ = some (.int .i64 0) := zq45
 have z5 : w2.cell? ⟨w.heap.size + 1, 5, none⟩ = some (.int .i64 0) := zq45
 have g0 : ∀ o, w2.frozen? ⟨w.heap.size + 1, o, none⟩ = false := by intro o; rw [hf2 _ _ (by omega), hf _ _ (by simp)]; simp
 have bb : Below w.heap.size w w2 := (((Below.refl _ _).alloc (Nat.le_refl _) _).alloc (by simp) _).trans (hb1.mono (by simp; omega)) |>.trans (hb2.mono (by omega))
 have BB : Hid (Below w.heap.size w w2) := bb
 clear hc hc2 hf hf2 bb hb1 hb2
 go_wp2_with fail
 go_region_with (first | (go_at_call 300; refine (i_has a s r 1 _).mono ?_; rintro e w3 ⟨rfl, rfl⟩) | (go_at_call 299; refine (i_immediate s hs _ W hW _).mono ?_; rintro e w3 ⟨rfl, rfl⟩))
 all_goals go_wp2
 all_goals refine bodyPost_ret (v := .agg #[.int .i64 a, .int .i64 ((regOf s 68 W : Int) + regOf s 66 W + toldRd r), .int .i64 ((regOf s 83 W : Int) + regOf s 66 W + toldRs1 r), .int .i64 (regOf s 84 W), .int .i64 (immOf s (hasB r 1) W), .int .i64 ((s.size : Int) / 8)]) (by simp [results, results209, go_sem, z0, z1, z2, z3, z4, z5, hz2]) rfl ⟨rfl, ?_⟩
 all_goals repeat (first | with_reducible exact BB.out | with_reducible refine Below.drew ?_ | with_reducible refine Below.setCell ?_ (by simp) _ | with_reducible refine Below.alloc ?_ (by simp; omega) _)
def rulesOut (r rd rs1 rs2 im : Int) : Bool :=
 (im == 0 && hasB r 16) || (rd == 0 && hasB r 32) || (rs1 == 0 && hasB r 64) || (rs2 == 0 && hasB r 128) || (rd == 2 && hasB r 256)
structure RO (a : Int) (s : ByteArray) (r rd rs1 rs2 : Int) (w wc : World) : Prop where
 below : Below w.heap.size w wc
 size : w.heap.size + 1 < wc.heap.size
 c0 : wc.cell? ⟨w.heap.size, 0, none⟩ = some (.int .i64 a)
 c1 : wc.cell? ⟨w.heap.size, 1, none⟩ = some (.string s)
 c2 : wc.cell? ⟨w.heap.size, 2, none⟩ = some (.int .i64 r)
 d1 : wc.cell? ⟨w.heap.size + 1, 1, none⟩ = some (.int .i64 rd)
 d2 : wc.cell? ⟨w.heap.size + 1, 2, none⟩ = some (.int .i64 rs1)
 d3 : wc.cell? ⟨w.heap.size + 1, 3, none⟩ = some (.int .i64 rs2)
theorem RO.start (a : Int) (s : ByteArray) (r op rd rs1 rs2 im ln : Int) (w : World) (t u : TypeId) :
 RO a s r rd rs1 rs2 w ((w.alloc (.cells #[.int .i64 a, .string s, .int .i64 r] t)).alloc (.cells #[.int .i64 op, .int .i64 rd, .int .i64 rs1, .int .i64 rs2, .int .i64 im, .int .i64 ln] u)) :=
 ⟨((Below.refl _ _).alloc (Nat.le_refl _) _).alloc (by simp) _, by simp, by simp, by simp, by simp, by simp, by simp, by simp⟩
theorem RO.more {a : Int} {s : ByteArray} {r rd rs1 rs2 : Int} {w wc : World} (h : RO a s r rd rs1 rs2 w wc) (o : Obj) : RO a s r rd rs1 rs2 w (wc.alloc o) := by
 have z := h.size
 have e : ∀ b o', b < wc.heap.size -> (wc.alloc o).cell? ⟨b, o', none⟩ = wc.cell? ⟨b, o', none⟩ := fun b o' hb =>
  (((Below.refl wc.heap.size wc).alloc (Nat.le_refl _) o).cell (p := ⟨b, o', none⟩) hb)
 exact ⟨h.below.alloc (by omega) _, by simp; omega, (e _ _ (by omega)).trans h.c0, (e _ _ (by omega)).trans h.c1, (e _ _ (by omega)).trans h.c2, (e _ _ (by omega)).trans h.d1, (e _ _ (by omega)).trans h.d2, (e _ _ (by omega)).trans h.d3⟩
theorem i_rulesOut (a : Int) (s : ByteArray) (r op rd rs1 rs2 im ln : Int) (w : World) :
 Calls prog 210 #[.agg #[.int .i64 a, .string s, .int .i64 r], .agg #[.int .i64 op, .int .i64 rd, .int .i64 rs1, .int .i64 rs2, .int .i64 im, .int .i64 ln]] w fun e w' =>
  e = .returned (.bool (rulesOut r rd rs1 rs2 im)) /\ Below w.heap.size w w' := by
 unfold rulesOut
 go_enter func210, ntmps210
 go_upto_region 1 with fail
 go_cut [5] (fun b wc => b = .bool (im == 0 && hasB r 16) /\ RO a s r rd rs1 rs2 w wc)
 case first =>
  cases h0 : (im == 0)
  . go_wp2
    go_meet
    case rel => exact ⟨by rw [h0, Bool.false_and], RO.start _ _ _ _ _ _ _ _ _ _ _ _⟩
  . go_wp2_with (go_at_call 300; refine (i_has a s r _ _).mono ?_; rintro e w3 ⟨rfl, rfl⟩)
    go_meet
    case rel => exact ⟨by rw [h0, Bool.true_and], (RO.start _ _ _ _ _ _ _ _ _ _ _ _).more _⟩
 case rest =>
  obtain ⟨rfl, hro⟩ := hcut
  cases hb0 : (im == 0 && hasB r 16)
  case true =>
   go_wp2
   go_ret
   exact ⟨by simp [hb0], hro.below⟩
  case false =>
   obtain ⟨wo, rfl⟩ := zn1 (wc : World)
   have z0 := hro.c0
   have z1 := hro.c1
   have z2 := hro.c2
   have z3 := hro.d1
   have z4 := hro.d2
   have z5 := hro.d3
   have z6 : w.heap.size < wo.heap.size := by have := hro.size; omega
   have z7 := hro.size
   go_upto_region 3 with fail
   go_cut [13] (fun b wc => b = .bool (rd == 0 && hasB r 32) /\ RO a s r rd rs1 rs2 w wc)
   case first =>
    cases h1 : (rd == 0)
    . go_wp2
      go_meet
      case rel => exact ⟨by rw [h1, Bool.false_and], hro⟩
    . go_wp2_with (go_at_call 300; refine (i_has a s r _ _).mono ?_; rintro e w3 ⟨rfl, rfl⟩)
      go_meet
      case rel => exact ⟨by rw [h1, Bool.true_and], (hro).more _⟩
   case rest =>
    clear z0 z1 z2 z3 z4 z5 z6 z7 hro; obtain ⟨rfl, hro⟩ := hcut
    cases hb1 : (rd == 0 && hasB r 32)
    case true =>
     go_wp2
     go_ret
     exact ⟨by simp [hb0, hb1], hro.below⟩
    case false =>
     obtain ⟨wo, rfl⟩ := zn1 (wc : World)
     have z0 := hro.c0
     have z1 := hro.c1
     have z2 := hro.c2
     have z3 := hro.d1
     have z4 := hro.d2
     have z5 := hro.d3
     have z6 : w.heap.size < wo.heap.size := by have := hro.size; omega
     have z7 := hro.size
     go_upto_region 5 with fail
     go_cut [21] (fun b wc => b = .bool (rs1 == 0 && hasB r 64) /\ RO a s r rd rs1 rs2 w wc)
     case first =>
      cases h2 : (rs1 == 0)
      . go_wp2
        go_meet
        case rel => exact ⟨by rw [h2, Bool.false_and], hro⟩
      . go_wp2_with (go_at_call 300; refine (i_has a s r _ _).mono ?_; rintro e w3 ⟨rfl, rfl⟩)
        go_meet
        case rel => exact ⟨by rw [h2, Bool.true_and], (hro).more _⟩
     case rest =>
      clear z0 z1 z2 z3 z4 z5 z6 z7 hro; obtain ⟨rfl, hro⟩ := hcut
      cases hb2 : (rs1 == 0 && hasB r 64)
      case true =>
       go_wp2
       go_ret
       exact ⟨by simp [hb0, hb1, hb2], hro.below⟩
      case false =>
       obtain ⟨wo, rfl⟩ := zn1 (wc : World)
       have z0 := hro.c0
       have z1 := hro.c1
       have z2 := hro.c2
       have z3 := hro.d1
       have z4 := hro.d2
       have z5 := hro.d3
       have z6 : w.heap.size < wo.heap.size := by have := hro.size; omega
       have z7 := hro.size
       go_upto_region 7 with fail
       go_cut [29] (fun b wc => b = .bool (rs2 == 0 && hasB r 128) /\ RO a s r rd rs1 rs2 w wc)
       case first =>
        cases h3 : (rs2 == 0)
        . go_wp2
          go_meet
          case rel => exact ⟨by rw [h3, Bool.false_and], hro⟩
        . go_wp2_with (go_at_call 300; refine (i_has a s r _ _).mono ?_; rintro e w3 ⟨rfl, rfl⟩)
          go_meet
          case rel => exact ⟨by rw [h3, Bool.true_and], (hro).more _⟩
       case rest =>
        clear z0 z1 z2 z3 z4 z5 z6 z7 hro; obtain ⟨rfl, hro⟩ := hcut
        cases hb3 : (rs2 == 0 && hasB r 128)
        case true =>
         go_wp2
         go_ret
         exact ⟨by simp [hb0, hb1, hb2, hb3], hro.below⟩
        case false =>
         obtain ⟨wo, rfl⟩ := zn1 (wc : World)
         have z0 := hro.c0
         have z1 := hro.c1
         have z2 := hro.c2
         have z3 := hro.d1
         have z4 := hro.d2
         have z5 := hro.d3
         have z6 : w.heap.size < wo.heap.size := by have := hro.size; omega
         have z7 := hro.size
         go_upto_region 9 with fail
         go_cut [37] (fun b wc => b = .bool (rd == 2 && hasB r 256) /\ RO a s r rd rs1 rs2 w wc)
         case first =>
          cases h4 : (rd == 2)
          . go_wp2
            go_meet
            case rel => exact ⟨by rw [h4, Bool.false_and], hro⟩
          . go_wp2_with (go_at_call 300; refine (i_has a s r _ _).mono ?_; rintro e w3 ⟨rfl, rfl⟩)
            go_meet
            case rel => exact ⟨by rw [h4, Bool.true_and], (hro).more _⟩
         case rest =>
          clear z0 z1 z2 z3 z4 z5 z6 z7 hro; obtain ⟨rfl, hro⟩ := hcut
          cases hb4 : (rd == 2 && hasB r 256)
          case true =>
           exact zq255
          case false =>
           exact zq255
structure Ins where
 op : Int
 rd : Int
 rs1 : Int
 rs2 : Int
 im : Int
 ln : Int
def insV (i : Ins) : Value := .agg #[.int .i64 i.op, .int .i64 i.rd, .int .i64 i.rs1, .int .i64 i.rs2, .int .i64 i.im, .int .i64 i.ln]
theorem hide {p : Prop} (h : p) : Hid p := h
def ins0 : Ins := ⟨0, 0, 0, 0, 0, 0⟩
def rowIns (t : Int × ByteArray × Int) (W : Nat) : Ins :=
 ⟨t.1, (regOf t.2.1 68 W : Int) + regOf t.2.1 66 W + toldRd t.2.2, (regOf t.2.1 83 W : Int) + regOf t.2.1 66 W + toldRs1 t.2.2, regOf t.2.1 84 W, immOf t.2.1 (hasB t.2.2 1) W, (t.2.1.size : Int) / 8⟩
def rowFits (t : Int × ByteArray × Int) (W : Nat) : Bool :=
 Pic.fits (Pic.rv t.2.1.data.toList t.2.1.size) W && !rulesOut t.2.2 (rowIns t W).rd (rowIns t W).rs1 (rowIns t W).rs2 (rowIns t W).im
theorem below6 {w w1 : World} (h : Below w.heap.size w w1) (n : Nat) (hn : w.heap.size <= n) (a b c d e f : Value) :
 Below w.heap.size w ((((((w1.setCell ⟨n, 0, none⟩ a).setCell ⟨n, 1, none⟩ b).setCell ⟨n, 2, none⟩ c).setCell ⟨n, 3, none⟩ d).setCell ⟨n, 4, none⟩ e).setCell ⟨n, 5, none⟩ f) :=
 (((((h.setCell hn _).setCell hn _).setCell hn _).setCell hn _).setCell hn _).setCell hn _
theorem i_meaning_no1 (a : Int) (s : ByteArray) (hs : s.size <= 32) (r : Int) (W : Nat) (hW : W < 4294967296) (w : World) (hf : Pic.fits (Pic.rv s.data.toList s.size) W = false) :
 CB 139 #[.agg #[.int .i64 a, .string s, .int .i64 r], .int .i64 W] (.tuple #[.agg #[.int .i64 0, .int .i64 0, .int .i64 0, .int .i64 0, .int .i64 0, .int .i64 0], .bool false]) w := by
 go_enter func139, ntmps139
 go_wp2_with fail
 refine (i_fixed s hs W hW _).mono ?_
 rintro e w1 ⟨rfl, rfl⟩
 go_wp2
 exact bodyPost_ret (v := .tuple #[.agg #[.int .i64 0, .int .i64 0, .int .i64 0, .int .i64 0, .int .i64 0, .int .i64 0], .bool false]) (by simp [results, results139, go_sem]) rfl ⟨rfl, ((Below.refl _ _).alloc (Nat.le_refl _) _).alloc (by simp) _⟩
theorem i_meaning_no2 (a : Int) (s : ByteArray) (hs : s.size <= 32) (r : Int) (W : Nat) (hW : W < 4294967296) (w : World) (hf : Pic.fits (Pic.rv s.data.toList s.size) W = true)
 (hro : rulesOut r ((regOf s 68 W : Int) + regOf s 66 W + toldRd r) ((regOf s 83 W : Int) + regOf s 66 W + toldRs1 r) (regOf s 84 W) (immOf s (hasB r 1) W) = true) :
 CB 139 #[.agg #[.int .i64 a, .string s, .int .i64 r], .int .i64 W] (.tuple #[.agg #[.int .i64 0, .int .i64 0, .int .i64 0, .int .i64 0, .int .i64 0, .int .i64 0], .bool false]) w := by
 go_enter func139, ntmps139
 go_wp2_with fail
 refine (i_fixed s hs W hW _).mono ?_
 rintro e w1 ⟨rfl, rfl⟩
 go_wp2_with fail
 refine (i_read a s hs r W hW _).mono ?_
 rintro e w1 ⟨rfl, hb1⟩
 obtain ⟨hc, hfz⟩ := bcell hb1
 have hz : w.heap.size + 1 < w1.heap.size := zq43
 have hz0 : w.heap.size < w1.heap.size := by omega
 have bb : Hid (Below w.heap.size w w1) := zq46
 have hb1' := hide hb1
 clear hb1
 go_wp2_with fail
 refine (i_rulesOut a s r _ _ _ _ _ _ _).mono ?_
 rintro e w2 ⟨rfl, hb2⟩
 obtain ⟨hc2, hfz2⟩ := bcell hb2
 have hz2 : w1.heap.size < w2.heap.size := by have := hb2.size; simp at this; omega
 have hz3 : w.heap.size + 1 < w2.heap.size := by omega
 have b2 : Hid (Below w.heap.size w w2) := (bb.out.alloc (by omega) _).trans (hb2.mono (by simp; omega))
 have hB := (hb1'.out.alloc (by simp; omega) _).trans (hb2.mono (by simp; omega))
 have y0 : w2.cell? ⟨w.heap.size + 1, 0, none⟩ = some (.int .i64 0) := zq47
 have y1 : w2.cell? ⟨w.heap.size + 1, 1, none⟩ = some (.int .i64 0) := zq47
 have y2 : w2.cell? ⟨w.heap.size + 1, 2, none⟩ = some (.int .i64 0) := zq47
 have y3 : w2.cell? ⟨w.heap.size + 1, 3, none⟩ = some (.int .i64 0) := zq47
 have y4 : w2.cell? ⟨w.heap.size + 1, 4, none⟩ = some (.int .i64 0) := zq47
 have y5 : w2.cell? ⟨w.heap.size + 1, 5, none⟩ = some (.int .i64 0) := zq47
 have g1 : ∀ o, w2.frozen? ⟨w.heap.size + 1, o, none⟩ = false := fun o => (hB.frozen (by simp)).trans (by simp)
 have x0 : w2.cell? ⟨w1.heap.size, 0, none⟩ = some (.int .i64 a) := zq48
 have x1 : w2.cell? ⟨w1.heap.size, 1, none⟩ = some (.int .i64 ((regOf s 68 W : Int) + regOf s 66 W + toldRd r)) := zq48
 have x2 : w2.cell? ⟨w1.heap.size, 2, none⟩ = some (.int .i64 ((regOf s 83 W : Int) + regOf s 66 W + toldRs1 r)) := zq48
 have x3 : w2.cell? ⟨w1.heap.size, 3, none⟩ = some (.int .i64 (regOf s 84 W)) := zq48
 have x4 : w2.cell? ⟨w1.heap.size, 4, none⟩ = some (.int .i64 (immOf s (hasB r 1) W)) := zq48
 have x5 : w2.cell? ⟨w1.heap.size, 5, none⟩ = some (.int .i64 ((s.size : Int) / 8)) := zq48
 clear hb2 bb hb1' hB hc hfz hc2 hfz2
 go_wp2
 exact bodyPost_ret (v := .tuple #[.agg #[.int .i64 0, .int .i64 0, .int .i64 0, .int .i64 0, .int .i64 0, .int .i64 0], .bool false]) zq513 rfl ⟨rfl, below6 b2.out _ (by simp) _ _ _ _ _ _⟩
theorem i_meaning_yes (a : Int) (s : ByteArray) (hs : s.size <= 32) (r : Int) (W : Nat) (hW : W < 4294967296) (w : World) (hf : Pic.fits (Pic.rv s.data.toList s.size) W = true)
 (hro : rulesOut r ((regOf s 68 W : Int) + regOf s 66 W + toldRd r) ((regOf s 83 W : Int) + regOf s 66 W + toldRs1 r) (regOf s 84 W) (immOf s (hasB r 1) W) = false) :
 CB 139 #[.agg #[.int .i64 a, .string s, .int .i64 r], .int .i64 W] (.tuple #[.agg #[.int .i64 a, .int .i64 ((regOf s 68 W : Int) + regOf s 66 W + toldRd r), .int .i64 ((regOf s 83 W : Int) + regOf s 66 W + toldRs1 r), .int .i64 (regOf s 84 W), .int .i64 (immOf s (hasB r 1) W), .int .i64 ((s.size : Int) / 8)], .bool true]) w := by
 go_enter func139, ntmps139
 go_wp2_with fail
 refine (i_fixed s hs W hW _).mono ?_
 rintro e w1 ⟨rfl, rfl⟩
 go_wp2_with fail
 refine (i_read a s hs r W hW _).mono ?_
 rintro e w1 ⟨rfl, hb1⟩
 obtain ⟨hc, hfz⟩ := bcell hb1
 have hz : w.heap.size + 1 < w1.heap.size := zq43
 have hz0 : w.heap.size < w1.heap.size := by omega
 have bb : Hid (Below w.heap.size w w1) := zq46
 have hb1' := hide hb1
 clear hb1
 go_wp2_with fail
 refine (i_rulesOut a s r _ _ _ _ _ _ _).mono ?_
 rintro e w2 ⟨rfl, hb2⟩
 obtain ⟨hc2, hfz2⟩ := bcell hb2
 have hz2 : w1.heap.size < w2.heap.size := by have := hb2.size; simp at this; omega
 have hz3 : w.heap.size + 1 < w2.heap.size := by omega
 have b2 : Hid (Below w.heap.size w w2) := (bb.out.alloc (by omega) _).trans (hb2.mono (by simp; omega))
 have hB := (hb1'.out.alloc (by simp; omega) _).trans (hb2.mono (by simp; omega))
 have y0 : w2.cell? ⟨w.heap.size + 1, 0, none⟩ = some (.int .i64 0) := zq47
 have y1 : w2.cell? ⟨w.heap.size + 1, 1, none⟩ = some (.int .i64 0) := zq47
 have y2 : w2.cell? ⟨w.heap.size + 1, 2, none⟩ = some (.int .i64 0) := zq47
 have y3 : w2.cell? ⟨w.heap.size + 1, 3, none⟩ = some (.int .i64 0) := zq47
 have y4 : w2.cell? ⟨w.heap.size + 1, 4, none⟩ = some (.int .i64 0) := zq47
 have y5 : w2.cell? ⟨w.heap.size + 1, 5, none⟩ = some (.int .i64 0) := zq47
 have g1 : ∀ o, w2.frozen? ⟨w.heap.size + 1, o, none⟩ = false := fun o => (hB.frozen (by simp)).trans (by simp)
 have x0 : w2.cell? ⟨w1.heap.size, 0, none⟩ = some (.int .i64 a) := zq48
 have x1 : w2.cell? ⟨w1.heap.size, 1, none⟩ = some (.int .i64 ((regOf s 68 W : Int) + regOf s 66 W + toldRd r)) := zq48
 have x2 : w2.cell? ⟨w1.heap.size, 2, none⟩ = some (.int .i64 ((regOf s 83 W : Int) + regOf s 66 W + toldRs1 r)) := zq48
 have x3 : w2.cell? ⟨w1.heap.size, 3, none⟩ = some (.int .i64 (regOf s 84 W)) := zq48
 have x4 : w2.cell? ⟨w1.heap.size, 4, none⟩ = some (.int .i64 (immOf s (hasB r 1) W)) := zq48
 have x5 : w2.cell? ⟨w1.heap.size, 5, none⟩ = some (.int .i64 ((s.size : Int) / 8)) := zq48
 clear hb2 bb hb1' hB hc hfz hc2 hfz2
 go_wp2
 exact bodyPost_ret (v := .tuple #[.agg #[.int .i64 a, .int .i64 ((regOf s 68 W : Int) + regOf s 66 W + toldRd r), .int .i64 ((regOf s 83 W : Int) + regOf s 66 W + toldRs1 r), .int .i64 (regOf s 84 W), .int .i64 (immOf s (hasB r 1) W), .int .i64 ((s.size : Int) / 8)], .bool true]) zq513 rfl ⟨rfl, below6 b2.out _ (by simp) _ _ _ _ _ _⟩
theorem i_meaning (t : Int × ByteArray × Int) (hs : t.2.1.size <= 32) (W : Nat) (hW : W < 4294967296) (w : World) :
 Calls prog 139 #[.agg #[.int .i64 t.1, .string t.2.1, .int .i64 t.2.2], .int .i64 W] w fun e w' =>
  e = .returned (.tuple #[insV (if rowFits t W = true then rowIns t W else ins0), .bool (rowFits t W)]) /\ Below w.heap.size w w' := by
 cases hf : Pic.fits (Pic.rv t.2.1.data.toList t.2.1.size) W
 . have e : rowFits t W = false := by simp [rowFits, hf]
   rw [e]
   exact i_meaning_no1 t.1 t.2.1 hs t.2.2 W hW w hf
 . cases hro : rulesOut t.2.2 (rowIns t W).rd (rowIns t W).rs1 (rowIns t W).rs2 (rowIns t W).im
   . have e : rowFits t W = true := by simp [rowFits, hf, hro]
     rw [e]
     exact i_meaning_yes t.1 t.2.1 hs t.2.2 W hW w hf hro
   . have e : rowFits t W = false := by simp [rowFits, hf, hro]
     rw [e]
     exact i_meaning_no2 t.1 t.2.1 hs t.2.2 W hW w hf hro
def sizeOf (w : Int) : Int := if w < 0 \/ 4294967295 < w then 0 else if w % 4 = 3 then 4 else if w <= 65535 then 2 else 0
theorem i_sizeOf (x : Int) (w : World) :
 CS 136 #[.int .i64 x] (.int .i64 (sizeOf x)) w := by
 have h3 := and_three x
 by_cases c1 : x < 0
 . exact zq256
 by_cases c2 : 4294967295 < x
 . exact zq256
 by_cases c3 : x % 4 = 3
 . have c3' : (x % 4 == 3) = true := by rw [beq_iff_eq]; exact c3
   have C3 : Hid (x % 4 = 3) := c3
   clear c3
   go_enter func136, ntmps136
   go_wp2
   go_ret
   exact ⟨congrArg (fun z => Ending.returned (Value.int .i64 z)) (by unfold sizeOf; rw [if_neg (by omega), if_pos C3.out]), rfl⟩
 have c3' : (x % 4 == 3) = false := by rw [beq_eq_false_iff_ne]; exact c3
 by_cases c4 : x <= 65535
 . go_enter func136, ntmps136
   go_wp2
   go_ret
   exact ⟨congrArg (fun z => Ending.returned (Value.int .i64 z)) (by unfold sizeOf; rw [if_neg (by omega), if_neg c3, if_pos c4]), rfl⟩
 . go_enter func136, ntmps136
   go_wp2
   go_ret
   exact ⟨congrArg (fun z => Ending.returned (Value.int .i64 z)) (by unfold sizeOf; rw [if_neg (by omega), if_neg c3, if_neg (by omega)]), rfl⟩
def rowCount (n : Int) : Int := bif n == 4 then 70 else bif n == 2 then 26 else 0
theorem i_rowCount (x : Int) (w : World) :
 CS 137 #[.int .i64 x] (.int .i64 (rowCount x)) w := by
 unfold rowCount
 cases h4 : (x == 4)
 . cases h2 : (x == 2)
   . exact zq257
   . exact zq257
 . exact zq257
def sameB (a b : Ins) : Bool := a.op == b.op && a.rd == b.rd && a.rs1 == b.rs1 && a.rs2 == b.rs2 && a.im == b.im && a.ln == b.ln
theorem i_same (a b : Ins) (w : World) :
 CB 141 #[insV a, insV b] (.bool (sameB a b)) w := by
 unfold sameB insV
 cases h0 : (a.op == b.op)
 . exact zq258
 cases h1 : (a.rd == b.rd)
 . exact zq258
 cases h2 : (a.rs1 == b.rs1)
 . exact zq258
 cases h3 : (a.rs2 == b.rs2)
 . exact zq258
 cases h4 : (a.im == b.im)
 . exact zq258
 cases h5 : (a.ln == b.ln)
 . exact zq258
 exact zq258
def scan (f : Nat -> Option Ins) : Nat -> Nat -> Option Ins
 | _, 0 => none
 | n, m + 1 => match f n with
  | some i => some i
  | none => scan f (n + 1) m
def rowMeans (size : Int) (W : Nat) (n : Nat) : Option Ins := if rowFits (rowAt size n) W = true then some (rowIns (rowAt size n) W) else none
def decodeD (x : Int) : Ins × Int :=
 if sizeOf x = 0 then (ins0, 2) else
 match scan (rowMeans (sizeOf x) x.toNat) 1 (rowCount (sizeOf x)).toNat with
 | some i => (i, 0)
 | none => (⟨0, 0, 0, 0, 0, sizeOf x⟩, 0)
theorem scan_step (f : Nat -> Option Ins) (n m : Nat) : scan f n (m + 1) = match f n with | some i => some i | none => scan f (n + 1) m := rfl
theorem long_small : ((List.range 71).all fun n => decide ((Tab.longRow n).2.1.size <= 32)) = true := by decide +kernel
theorem short_small : ((List.range 27).all fun n => decide ((Tab.shortRow n).2.1.size <= 32)) = true := by decide +kernel
theorem row_small (size : Int) (h : size = 4 \/ size = 2) (n : Nat) (hn : (n : Int) <= rowCount size) : (rowAt size n).2.1.size <= 32 := by
 rcases h with rfl | rfl
 . have h1 := List.all_eq_true.1 long_small n (by simp [rowCount] at hn; simp; omega)
   simpa [rowAt] using h1
 . have h1 := List.all_eq_true.1 short_small n (by simp [rowCount] at hn; simp; omega)
   simpa [rowAt] using h1
theorem size_ways (x : Int) : sizeOf x = 0 \/ ((sizeOf x = 4 \/ sizeOf x = 2) /\ 0 <= x /\ x < 4294967296) := by
 unfold sizeOf
 split
 . exact .inl rfl
 . split
   . exact .inr ⟨.inl rfl, by omega, by omega⟩
   . split
     . exact .inr ⟨.inr rfl, by omega, by omega⟩
     . exact .inl rfl
theorem i_Decode_no (x : Int) (h : sizeOf x = 0) (w : World) :
 CB 86 #[.int .i64 x] (.tuple #[insV ins0, .int .i64 2]) w := by
 unfold insV ins0
 go_enter func86, ntmps86
 go_wp2_with fail
 refine (i_sizeOf x _).mono ?_
 rintro e w1 ⟨rfl, rfl⟩
 rw [h]
 go_wp2
 exact bodyPost_ret (v := .tuple #[.agg #[.int .i64 0, .int .i64 0, .int .i64 0, .int .i64 0, .int .i64 0, .int .i64 0], .int .i64 2]) (by simp [results, results86, go_sem]) rfl ⟨rfl, (Below.refl _ _).alloc (Nat.le_refl _) _⟩
structure Zed (w wr : World) : Prop where
 below : Below w.heap.size w wr
 lt : w.heap.size < wr.heap.size
 c0 : wr.cell? ⟨w.heap.size, 0, none⟩ = some (.int .i64 0)
 c1 : wr.cell? ⟨w.heap.size, 1, none⟩ = some (.int .i64 0)
 c2 : wr.cell? ⟨w.heap.size, 2, none⟩ = some (.int .i64 0)
 c3 : wr.cell? ⟨w.heap.size, 3, none⟩ = some (.int .i64 0)
 c4 : wr.cell? ⟨w.heap.size, 4, none⟩ = some (.int .i64 0)
 c5 : wr.cell? ⟨w.heap.size, 5, none⟩ = some (.int .i64 0)
 fro : ∀ o, wr.frozen? ⟨w.heap.size, o, none⟩ = false
theorem Zed.start (w : World) (t : TypeId) : Zed w (w.alloc (.cells #[.int .i64 0, .int .i64 0, .int .i64 0, .int .i64 0, .int .i64 0, .int .i64 0] t)) :=
 ⟨(Below.refl _ _).alloc (Nat.le_refl _) _, by simp, by simp, by simp, by simp, by simp, by simp, by simp, by intro o; simp⟩
theorem Zed.more {w wr w' : World} (h : Zed w wr) (hb : Below wr.heap.size wr w') : Zed w w' :=
 ⟨h.below.trans (hb.mono (Nat.le_of_lt h.lt)), Nat.lt_of_lt_of_le h.lt hb.size, (hb.cell (p := ⟨w.heap.size, 0, none⟩) h.lt).trans h.c0, (hb.cell (p := ⟨w.heap.size, 1, none⟩) h.lt).trans h.c1,
  (hb.cell (p := ⟨w.heap.size, 2, none⟩) h.lt).trans h.c2, (hb.cell (p := ⟨w.heap.size, 3, none⟩) h.lt).trans h.c3, (hb.cell (p := ⟨w.heap.size, 4, none⟩) h.lt).trans h.c4,
  (hb.cell (p := ⟨w.heap.size, 5, none⟩) h.lt).trans h.c5, fun o => (hb.frozen (p := ⟨w.heap.size, o, none⟩) h.lt).trans (h.fro o)⟩
theorem Zed.alloc {w wr : World} (h : Zed w wr) (o : Obj) : Zed w (wr.alloc o) := h.more ((Below.refl _ _).alloc (Nat.le_refl _) _)
theorem sc_hit {size : Int} {W n : Nat} {m T : Option Ins} {t : Int × ByteArray × Int} (ht : Hid (t = rowAt size n)) (hf : rowFits t W = true)
 (h : Hid ((match rowMeans size W n with | some i => some i | none => m) = T)) : T = some (rowIns t W) := by
 rw [<- h.out, rowMeans, <- ht.out, if_pos hf]
theorem sc_miss {size : Int} {W n : Nat} {m T : Option Ins} {t : Int × ByteArray × Int} (ht : Hid (t = rowAt size n)) (hf : rowFits t W = false)
 (h : Hid ((match rowMeans size W n with | some i => some i | none => m) = T)) : Hid (m = T) := by
 show m = T
 rw [<- h.out, rowMeans, <- ht.out, if_neg (by rw [hf]; decide)]
theorem i_Decode_yes (W : Nat) (hW : W < 4294967296) (size : Int) (hsz : size = 4 \/ size = 2) (hsize : Hid (sizeOf (W : Int) = size)) (w : World) :
 Calls prog 86 #[.int .i64 W] w fun e w' => (∃ i, e = .returned (.tuple #[insV i, .int .i64 0]) /\ Hid (i = (scan (rowMeans size W) 1 (rowCount size).toNat).getD ⟨0, 0, 0, 0, 0, size⟩)) /\ Below w.heap.size w w' := by
 have hn0 : (size == 0) = false := by rcases hsz with rfl | rfl <;> rfl
 obtain ⟨C, hC⟩ : ∃ C : Nat, (C : Int) = rowCount size := by rcases hsz with rfl | rfl; exact ⟨70, rfl⟩; exact ⟨26, rfl⟩
 have hC70 : C <= 70 := by rcases hsz with rfl | rfl <;> simp [rowCount] at hC <;> omega
 have hCC : Hid ((C : Int) = rowCount size) := hC
 rw [<- hC, Int.toNat_natCast]
 clear hC
 go_enter func86, ntmps86
 go_wp2_with fail
 refine (i_sizeOf W _).mono ?_
 rintro e w1 ⟨rfl, rfl⟩
 rw [hsize.out]
 go_wp2_with fail
 refine (i_rowCount size _).mono ?_
 rintro e w1 ⟨rfl, rfl⟩
 rw [<- hCC.out]
 go_wp2_with fail
 go_loopw [6] (fun k wr => ∃ n : Nat, 1 <= n /\ n <= C + 1 /\ k = .int .i64 n /\ Zed w wr /\ Hid (scan (rowMeans size W) n (C + 1 - n) = scan (rowMeans size W) 1 C)) (fun k _ => C + 1 - (intOf k).toNat)
 case atStart => exact ⟨1, by omega, by omega, rfl, Zed.start _ _, rfl⟩
 case round =>
  obtain ⟨n, hn1, hn2, rfl, hz, hsc⟩ := hrel
  by_cases hnC : n <= C
  . have hbd := row_small size hsz n (by rw [<- hCC.out]; omega)
    have hstep := scan_step (rowMeans size W) n (C - n)
    rw [show C - n + 1 = C + 1 - n by omega] at hstep
    rw [hstep] at hsc
    clear hstep
    go_wp2_with fail
    refine (i_rowAt size n _).mono ?_
    rintro e w1 ⟨rfl, hb1⟩
    obtain ⟨t, ht⟩ := zn1 (rowAt size n)
    rw [<- ht] at hbd |-
    have HT : Hid (t = rowAt size n) := ht
    clear ht
    replace hz := hz.more hb1
    clear hb1
    simp only [rowV]
    go_wp2_with fail
    refine (i_meaning t hbd W hW _).mono ?_
    rintro e w2 ⟨rfl, hb2⟩
    replace hz := (hz.alloc _).more hb2
    clear hb2
    have z0 := hz.c0
    have z1 := hz.c1
    have z2 := hz.c2
    have z3 := hz.c3
    have z4 := hz.c4
    have z5 := hz.c5
    have zf := hz.fro
    have hlt := hz.lt
    cases hf : rowFits t W
    . have hm := sc_miss HT hf hsc
      clear hsc
      simp only [insV, ins0]
      go_wp2
      go_roundw
      case rel => exact ⟨n + 1, by omega, by omega, by go_num, hz.alloc _, by rw [show C + 1 - (n + 1) = C - n by omega]; exact hm⟩
      case measure => exact zq191
    . have hm := hide (sc_hit HT hf hsc)
      clear hsc
      obtain ⟨i, hi⟩ := zn1 (rowIns t W)
      have HI := hide hi
      simp only [if_true]
      rw [<- hi]
      clear hi
      simp only [insV]
      go_wp2
      refine bodyPost_ret (v := .tuple #[.agg #[.int .i64 i.op, .int .i64 i.rd, .int .i64 i.rs1, .int .i64 i.rs2, .int .i64 i.im, .int .i64 i.ln], .int .i64 0]) (by simp [results, results86, go_sem, z0, z1, z2, z3, z4, z5, hlt]) rfl ⟨⟨i, rfl, ?_⟩, ?_⟩
      . show i = _
        rw [hm.out, HI.out]; rfl
      . exact (below6 hz.below _ (Nat.le_refl _) _ _ _ _ _ _).alloc (by simp; omega) _
  . have h0 : C + 1 - n = 0 := by omega
    rw [h0] at hsc
    have z0 := hz.c0
    have z1 := hz.c1
    have z2 := hz.c2
    have z3 := hz.c3
    have z4 := hz.c4
    have z5 := hz.c5
    have zf := hz.fro
    have hlt := hz.lt
    go_wp2
    refine bodyPost_ret (v := .tuple #[.agg #[.int .i64 0, .int .i64 0, .int .i64 0, .int .i64 0, .int .i64 0, .int .i64 size], .int .i64 0]) (by simp [results, results86, go_sem, z0, z1, z2, z3, z4, z5]) rfl ⟨⟨⟨0, 0, 0, 0, 0, size⟩, rfl, ?_⟩, ?_⟩
    . rw [<- hsc.out]; rfl
    . exact below6 hz.below _ (Nat.le_refl _) _ _ _ _ _ _
theorem i_Decode (x : Int) (w : World) :
 CB 86 #[.int .i64 x] (.tuple #[insV (decodeD x).1, .int .i64 (decodeD x).2]) w := by
 rcases size_ways x with h | ⟨h, h0, h1⟩
 . have e : decodeD x = (ins0, 2) := by unfold decodeD; rw [if_pos h]
   rw [e]
   exact i_Decode_no x h w
 . obtain ⟨W, rfl⟩ := Int.eq_ofNat_of_zero_le h0
   have hne : ¬ sizeOf (W : Int) = 0 := by rcases h with h | h <;> rw [h] <;> decide
   refine (i_Decode_yes W (by omega) _ h rfl w).mono ?_
   rintro e w' ⟨⟨i, rfl, hi⟩, hb⟩
   have hD : decodeD (W : Int) = (i, 0) := by
    unfold decodeD
    rw [if_neg hne, Int.toNat_natCast]
    have := hi.out
    cases hs : scan (rowMeans (sizeOf (W : Int)) W) 1 (rowCount (sizeOf (W : Int))).toNat with
    | none => rw [hs] at this; rw [this]; rfl
    | some j => rw [hs] at this; rw [this]; rfl
   rw [hD]
   exact ⟨rfl, hb⟩
def rowDraw (t : Int × ByteArray × Int) (i : Ins) : Nat := Pic.draw (Pic.rv t.2.1.data.toList t.2.1.size) i.rd i.rs1 i.rs2 i.im
def rowWord (i : Ins) (n : Nat) : Option Nat :=
 if (rowAt i.ln n).1 = i.op /\ rowFits (rowAt i.ln n) (rowDraw (rowAt i.ln n) i) = true /\ sameB (rowIns (rowAt i.ln n) (rowDraw (rowAt i.ln n) i)) i = true then some (rowDraw (rowAt i.ln n) i) else none
def better (st x : Option Nat) : Option Nat :=
 match x with
 | none => st
 | some b => match st with
  | none => some b
  | some a => if b < a then some b else some a
def least (i : Ins) : Option Nat -> Nat -> Nat -> Option Nat
 | st, _, 0 => st
 | st, n, m + 1 => least i (better st (rowWord i n)) (n + 1) m
theorem least_step (i : Ins) (st : Option Nat) (n m : Nat) : least i st n (m + 1) = least i (better st (rowWord i n)) (n + 1) m := rfl
def encodeD (i : Ins) : Int × Int :=
 match least i none 1 (rowCount i.ln).toNat with
 | some b => (b, 0)
 | none => (0, 3)
structure Ized (i : Ins) (w wr : World) : Prop where
 below : Below w.heap.size w wr
 lt : w.heap.size < wr.heap.size
 c0 : wr.cell? ⟨w.heap.size, 0, none⟩ = some (.int .i64 i.op)
 c1 : wr.cell? ⟨w.heap.size, 1, none⟩ = some (.int .i64 i.rd)
 c2 : wr.cell? ⟨w.heap.size, 2, none⟩ = some (.int .i64 i.rs1)
 c3 : wr.cell? ⟨w.heap.size, 3, none⟩ = some (.int .i64 i.rs2)
 c4 : wr.cell? ⟨w.heap.size, 4, none⟩ = some (.int .i64 i.im)
 c5 : wr.cell? ⟨w.heap.size, 5, none⟩ = some (.int .i64 i.ln)
theorem Ized.start (i : Ins) (w : World) (t : TypeId) : Ized i w (w.alloc (.cells #[.int .i64 i.op, .int .i64 i.rd, .int .i64 i.rs1, .int .i64 i.rs2, .int .i64 i.im, .int .i64 i.ln] t)) :=
 ⟨(Below.refl _ _).alloc (Nat.le_refl _) _, by simp, by simp, by simp, by simp, by simp, by simp, by simp⟩
theorem Ized.more {i : Ins} {w wr w' : World} (h : Ized i w wr) (hb : Below wr.heap.size wr w') : Ized i w w' :=
 ⟨h.below.trans (hb.mono (Nat.le_of_lt h.lt)), Nat.lt_of_lt_of_le h.lt hb.size, (hb.cell (p := ⟨w.heap.size, 0, none⟩) h.lt).trans h.c0, (hb.cell (p := ⟨w.heap.size, 1, none⟩) h.lt).trans h.c1,
  (hb.cell (p := ⟨w.heap.size, 2, none⟩) h.lt).trans h.c2, (hb.cell (p := ⟨w.heap.size, 3, none⟩) h.lt).trans h.c3, (hb.cell (p := ⟨w.heap.size, 4, none⟩) h.lt).trans h.c4,
  (hb.cell (p := ⟨w.heap.size, 5, none⟩) h.lt).trans h.c5⟩
theorem Ized.alloc {i : Ins} {w wr : World} (h : Ized i w wr) (o : Obj) : Ized i w (wr.alloc o) := h.more ((Below.refl _ _).alloc (Nat.le_refl _) _)
theorem draw_bd (t : Int × ByteArray × Int) (hs : t.2.1.size <= 32) (i : Ins) : rowDraw t i < 4294967296 := by
 have h := Pic.draw_lt (Pic.rv t.2.1.data.toList t.2.1.size) i.rd i.rs1 i.rs2 i.im
 rw [Pic.rv_length _ _ (by simp)] at h
 have c : 2 ^ t.2.1.size <= 2 ^ 32 := Nat.pow_le_pow_right (by decide) hs
 have d : (2 : Nat) ^ 32 = 4294967296 := by decide
 unfold rowDraw
 omega
theorem ww_op {i : Ins} {n : Nat} {t : Int × ByteArray × Int} (ht : Hid (t = rowAt i.ln n)) (h : ¬ t.1 = i.op) : rowWord i n = none := by
 unfold rowWord; rw [<- ht.out, if_neg (fun hh => h hh.1)]
theorem ww_fit {i : Ins} {n : Nat} {t : Int × ByteArray × Int} (ht : Hid (t = rowAt i.ln n)) (h : rowFits t (rowDraw t i) = false) : rowWord i n = none := by
 unfold rowWord; rw [<- ht.out, if_neg (fun hh => by rw [h] at hh; cases hh.2.1)]
theorem ww_same {i : Ins} {n : Nat} {t : Int × ByteArray × Int} (ht : Hid (t = rowAt i.ln n)) (h : sameB (rowIns t (rowDraw t i)) i = false) : rowWord i n = none := by
 unfold rowWord; rw [<- ht.out, if_neg (fun hh => by rw [h] at hh; cases hh.2.2)]
theorem ww_yes {i : Ins} {n : Nat} {t : Int × ByteArray × Int} (ht : Hid (t = rowAt i.ln n)) (h1 : t.1 = i.op) (h2 : rowFits t (rowDraw t i) = true) (h3 : sameB (rowIns t (rowDraw t i)) i = true) : rowWord i n = some (rowDraw t i) := by
 unfold rowWord; rw [<- ht.out, if_pos ⟨h1, h2, h3⟩]
theorem i_Encode' (i : Ins) (C : Nat) (hC70 : C <= 70) (hCC : Hid ((C : Int) = rowCount i.ln)) (w : World) :
 Calls prog 87 #[insV i] w fun e w' => (∃ st : Option Nat, Hid (st = least i none 1 C) /\ e = .returned (.tuple #[.int .i64 (st.getD 0 : Nat), .int .i64 (bif st.isSome then 0 else 3)])) /\ Below w.heap.size w w' := by
 unfold insV
 go_enter func87, ntmps87
 go_wp2_with fail
 refine (i_rowCount i.ln _).mono ?_
 rintro e w1 ⟨rfl, rfl⟩
 rw [<- hCC.out]
 go_wp2_with fail
 go_loopw [4, 5, 7] (fun l f k wr => ∃ (n : Nat) (st : Option Nat), 1 <= n /\ n <= C + 1 /\ k = .int .i64 n /\ l = .int .i64 (st.getD 0 : Nat) /\ f = .bool st.isSome /\ Ized i w wr /\ Hid (least i st n (C + 1 - n) = least i none 1 C)) (fun _ _ k _ => C + 1 - (intOf k).toNat)
 case atStart => exact ⟨1, none, by omega, by omega, rfl, rfl, rfl, Ized.start _ _ _, rfl⟩
 case round =>
  obtain ⟨n, st, hn1, hn2, rfl, rfl, rfl, hz, hsc⟩ := hrel
  by_cases hnC : n <= C
  . have hsz : i.ln = 4 \/ i.ln = 2 := by
     have h := hCC.out
     unfold rowCount at h
     cases h4 : (i.ln == 4)
     . cases h2 : (i.ln == 2)
       . rw [h4, h2] at h; simp at h; omega
       . exact .inr (beq_iff_eq.1 h2)
     . exact .inl (beq_iff_eq.1 h4)
    have hbd := row_small i.ln hsz n (by rw [<- hCC.out]; omega)
    have HSZ := hide hsz
    clear hsz
    have hstep := least_step i st n (C - n)
    rw [show C - n + 1 = C + 1 - n by omega] at hstep
    rw [hstep] at hsc
    clear hstep
    have z5 := hz.c5
    go_wp2_with fail
    refine (i_rowAt i.ln n _).mono ?_
    rintro e w1 ⟨rfl, hb1⟩
    obtain ⟨t, ht⟩ := zn1 (rowAt i.ln n)
    rw [<- ht] at hbd |-
    have HT : Hid (t = rowAt i.ln n) := ht
    clear ht z5
    replace hz := hz.more hb1
    clear hb1
    have z0 := hz.c0
    have z1 := hz.c1
    have z2 := hz.c2
    have z3 := hz.c3
    have z4 := hz.c4
    have z5 := hz.c5
    have hlt := hz.lt
    simp only [rowV]
    by_cases hop : t.1 = i.op
    . have hop' : (t.1 != i.op) = false := by simp [hop]
      have HOP := hide hop
      clear hop
      go_wp2_with fail
      refine (i_draw t.2.1 hbd i.op i.rd i.rs1 i.rs2 i.im i.ln _).mono ?_
      rintro e w2 ⟨rfl, hb2⟩
      have hb2' := hide hb2
      have x0 := (hb2.cell (p := ⟨w1.heap.size, 0, none⟩) (by simp)).trans (by simp : _ = some (.int .i64 t.1))
      have x1 := (hb2.cell (p := ⟨w1.heap.size, 1, none⟩) (by simp)).trans (by simp : _ = some (.string t.2.1))
      have x2 := (hb2.cell (p := ⟨w1.heap.size, 2, none⟩) (by simp)).trans (by simp : _ = some (.int .i64 t.2.2))
      clear z0 z1 z2 z3 z4 z5 hlt
      replace hz := (hz.alloc _).more hb2
      clear hb2 hb2'
      have hW := draw_bd t hbd i
      obtain ⟨W, hw⟩ := zn1 (rowDraw t i)
      have e1 : Pic.draw (Pic.rv t.2.1.data.toList t.2.1.size) i.rd i.rs1 i.rs2 i.im = W := hw.symm
      rw [e1]
      rw [<- hw] at hW
      have HW := hide hw
      clear hw e1
      go_wp2_with fail
      refine (i_meaning t hbd W hW _).mono ?_
      rintro e w3 ⟨rfl, hb3⟩
      replace hz := hz.more hb3
      clear hb3 x0 x1 x2
      have z0 := hz.c0
      have z1 := hz.c1
      have z2 := hz.c2
      have z3 := hz.c3
      have z4 := hz.c4
      have z5 := hz.c5
      have hlt := hz.lt
      cases hf : rowFits t W
      . rw [ww_fit HT (by rw [<- HW.out]; exact hf)] at hsc
        simp only [insV, ins0]
        exact zq259
      . obtain ⟨j, hj⟩ := zn1 (rowIns t W)
        simp only [if_true]
        rw [<- hj]
        have HJ := hide hj
        clear hj
        simp only [insV]
        go_wp2_with fail
        refine (i_same j i _).mono ?_
        rintro e w4 ⟨rfl, hb4⟩
        replace hz := (hz.alloc _).more hb4
        clear hb4 z0 z1 z2 z3 z4 z5 hlt
        cases hs : sameB j i
        . rw [ww_same HT (by rw [<- HW.out, <- HJ.out]; exact hs)] at hsc
          go_wp2
          go_roundw
          case rel => exact ⟨n + 1, st, by omega, by omega, by go_num, rfl, rfl, hz, by rw [show C + 1 - (n + 1) = C - n by omega]; exact hsc⟩
          case measure => exact zq191
        . rw [ww_yes HT HOP.out (by rw [<- HW.out]; exact hf) (by rw [<- HW.out, <- HJ.out]; exact hs), <- HW.out] at hsc
          cases st with
          | none =>
           go_wp2
           go_roundw
           case rel => exact zq260
           case measure => exact zq191
          | some a =>
           by_cases hla : W < a
           . simp only [better, if_pos hla] at hsc
             have hla' : decide ((W : Int) < (a : Int)) = true := by simp; omega
             go_wp2
             go_roundw
             case rel => exact zq260
             case measure => exact zq191
           . simp only [better, if_neg hla] at hsc
             have hla' : decide ((W : Int) < (a : Int)) = false := by simp; omega
             go_wp2
             go_roundw
             case rel => exact ⟨n + 1, some a, by omega, by omega, by go_num, rfl, rfl, hz, by rw [show C + 1 - (n + 1) = C - n by omega]; exact hsc⟩
             case measure => exact zq191
    . have hop' : (t.1 != i.op) = true := by simp [hop]
      rw [ww_op HT hop] at hsc
      clear hop
      exact zq259
  . have h0 : C + 1 - n = 0 := by omega
    rw [h0] at hsc
    cases st with
    | none =>
     go_wp2
     go_ret2
     exact ⟨⟨none, hsc, rfl⟩, hz.below⟩
    | some a =>
     go_wp2
     go_ret2
     exact ⟨⟨some a, hsc, rfl⟩, hz.below⟩
section
attribute [local go_sem ↓] Go.wp_at_zero Go.wp_at_succ
theorem Kept.drewN {F : List Nat} {a w : World} (h : Kept F a w) (n : Nat) : Kept F a (w.drewN n) := ⟨h.os, h.tape, h.output, h.size, h.block⟩
theorem XAt.drewN {w mb rb X} (h : XAt w mb rb X) (n : Nat) : XAt (w.drewN n) mb rb X := h.kept ((Kept.refl [] w).drewN n)
structure NI where
 op : Int
 rd : Nat
 rs1 : Nat
 rs2 : Nat
 im : Int
 ln : Nat
def niV (i : NI) : Value := .agg #[.int .i64 i.op, .int .i64 i.rd, .int .i64 i.rs1, .int .i64 i.rs2, .int .i64 i.im, .int .i64 i.ln]
def niC (i : NI) : Obj := .cells #[.int .i64 i.op, .int .i64 i.rd, .int .i64 i.rs1, .int .i64 i.rs2, .int .i64 i.im, .int .i64 i.ln] 60
structure NIOk (i : NI) : Prop where
 rd : i.rd < 32
 rs1 : i.rs1 < 32
 rs2 : i.rs2 < 32
 im0 : -4294967296 <= i.im
 im1 : i.im < 4294967296
 ln : i.ln = 2 \/ i.ln = 4
def wrcB (i : NI) : Bool := decide (i.op = 61 \/ i.op = 64 \/ i.rs1 ≠ 0)
theorem x_writesCsr (i : NI) (w : World) :
 Calls prog 134 #[niV i] w fun o w' => o = .returned (.bool (wrcB i)) /\ w' = w.alloc (niC i) := by
 obtain ⟨op, rd, rs1, rs2, im, ln⟩ := i
 obtain ⟨T, hT⟩ := zn1 (wrcB ⟨op, rd, rs1, rs2, im, ln⟩)
 rw [<- hT]
 unfold wrcB at hT
 dsimp only at hT
 unfold niV niC
 by_cases h1 : op = 61
 . subst h1
   exact zq261
 have q1 : (op == 61) = false := by simp [h1]
 by_cases h2 : op = 64
 . subst h2
   exact zq261
 have q2 : (op == 64) = false := by simp [h2]
 by_cases h3 : rs1 = 0
 . subst h3
   have HT : Hid (T = false) := by rw [hT]; show _ = _; simp [h1, h2]
   clear hT h1 h2
   exact zq262
 . have HT : Hid (T = true) := by rw [hT]; show _ = _; simp [h3]
   have q3 : ((rs1 : Int) != 0) = true := by simp; omega
   have q3' : (rs1 != 0) = true := by simp; omega
   clear hT h1 h2 h3
   exact zq262
def cwrD (i : NI) : Int := if 61 <= i.op /\ i.op <= 66 /\ wrcB i = true then (if i.im = 2816 \/ i.im = 2944 then 1 else if i.im = 2818 \/ i.im = 2946 then 4 else 0) else 0
theorem x_countersWritten (i : NI) (w : World) :
 CK 84 #[niV i] (.int .i64 (cwrD i)) w := by
 have WC := fun W => hide1 (x_writesCsr i W)
 obtain ⟨T, hT⟩ := zn1 (cwrD i)
 rw [<- hT]
 unfold cwrD at hT
 obtain ⟨b, hb⟩ := zn1 (wrcB i)
 simp only [<- hb] at WC hT
 clear hb
 unfold niV niC at WC
 unfold niV
 obtain ⟨op, rd, rs1, rs2, im, ln⟩ := i
 dsimp only at WC hT |-
 have HT := hide1 hT
 clear hT
 by_cases h1 : op < 61
 . have q : decide (op < 61) = true := by simp [h1]
   have HT2 : Hid (T = 0) := by rw [HT.out]; show _ = _; rw [if_neg (by omega)]
   clear HT h1
   exact zq263
 have q1 : decide (op < 61) = false := by simp; omega
 by_cases h2 : 66 < op
 . have q : decide (66 < op) = true := by simp [h2]
   have HT2 : Hid (T = 0) := by rw [HT.out]; show _ = _; rw [if_neg (by omega)]
   clear HT h1 h2
   exact zq263
 have q2 : decide (66 < op) = false := by simp; omega
 cases b
 . have HT2 : Hid (T = 0) := by rw [HT.out]; show _ = _; rw [if_neg (by simp)]
   clear HT h1 h2
   go_enter func84, ntmps84
   go_wp2_with (go_at_call 134; refine (WC _).out.mono ?_; rintro o w2 ⟨rfl, rfl⟩)
   go_ret
   exact ⟨ret_intE (by rw [HT2.out]), ((Kept.refl _ _).alloc _).alloc _⟩
 . have HT2 : Hid (T = (if im = 2816 \/ im = 2944 then 1 else if im = 2818 \/ im = 2946 then 4 else 0)) := by rw [HT.out]; show _ = _; rw [if_pos ⟨by omega, by omega, rfl⟩]
   clear HT h1 h2
   go_enter func84, ntmps84
   go_wp2_with (go_at_call 134; refine (WC _).out.mono ?_; rintro o w2 ⟨rfl, rfl⟩)
   all_goals (go_ret; refine ⟨ret_intE ?_, ((Kept.refl _ _).alloc _).alloc _⟩; rw [HT2.out]; simp_all)
def behD (pc : Nat) (i : NI) : Nat := (pc + i.ln) % 4294967296
theorem x_behind (mb rb : Nat) (X : XS) (hpc : X.pc < 4294967296) (i : NI) (hi : NIOk i) (w) (hw : Hid (XAt w mb rb X)) :
 CK 194 #[.pointer (some ⟨mb, 0, none⟩), niV i] (.int .i64 (behD X.pc i)) w := by
 have hlt := hw.out.lt
 have hlt' : ¬ mb = w.heap.size := by omega
 have c33 := hw.out.c33
 have hln := hi.ln
 have WD : ∀ W, CS 135 #[.int .i64 ((X.pc : Int) + (i.ln : Int))] (.int .i64 (behD X.pc i)) W := fun W => by have := x_word ((X.pc : Int) + (i.ln : Int)) W; rw [show wordN ((X.pc : Int) + (i.ln : Int)) = behD X.pc i by unfold wordN behD; omega] at this; exact this
 have wr : IntKind.i64.wrap ((X.pc : Int) + (i.ln : Int)) = (X.pc : Int) + (i.ln : Int) := zq9
 obtain ⟨r, hr⟩ := zn1 (behD X.pc i)
 simp only [<- hr] at WD |-
 have HW := hide1 WD
 unfold niV
 clear hr WD hi hln hw
 go_enter func194, ntmps194
 go_upto_region 1 with fail
 go_quiet ((go_at_call 135; exact Calls.quiet_of_same (HW.out _)))
 exact zq264
theorem x_branches (mb rb : Nat) (X : XS) (hxr : ∀ i, X.x.getD i 0 < 4294967296) (i : NI) (hi : NIOk i) (hop : 5 <= i.op /\ i.op <= 10) (w) (hw : Hid (XAt w mb rb X)) :
 CK 193 #[.pointer (some ⟨mb, 0, none⟩), niV i] (.bool (holds i.op (X.x.getD i.rs1 0) (X.x.getD i.rs2 0))) w := by
 have hwa : Hid (XAt (w.alloc (niC i)) mb rb X) := zq10
 have ha := hxr i.rs1
 have hb := hxr i.rs2
 have A1 := hide1 (fun W h => x_register mb rb X i.rs1 hi.rs1 W h)
 have A2 := hide1 (fun W h => x_register mb rb X i.rs2 hi.rs2 W h)
 obtain ⟨a, hae⟩ := zn1 (X.x.getD i.rs1 0)
 obtain ⟨b, hbe⟩ := zn1 (X.x.getD i.rs2 0)
 simp only [<- hae] at ha A1 |-
 simp only [<- hbe] at hb A2 |-
 unfold niC at hwa
 unfold niV
 obtain ⟨op, rd, rs1, rs2, im, ln⟩ := i
 dsimp only at hop hwa A1 A2 |-
 clear hae hbe hi hw
 have h : op = 5 \/ op = 6 \/ op = 7 \/ op = 8 \/ op = 9 \/ op = 10 := by omega
 have s1 := hide1 (x_signed a ha)
 have s2 := hide1 (x_signed b hb)
 clear hop
 rcases h with rfl | rfl | rfl | rfl | rfl | rfl
 all_goals
  go_enter func193, ntmps193
  go_wp2_with fail
  refine (A1.out _ hwa).mono ?_
  rintro o w1 ⟨rfl, rfl⟩
  go_wp2_with fail
  refine (A2.out _ hwa).mono ?_
  rintro o w1 ⟨rfl, rfl⟩
  go_wp2_with fail
 . exact zq265
 . exact zq265
 . exact zq266
 . exact zq266
 . exact zq267
 . exact zq267
end
structure BoxAt (w : World) (b : Nat) (cs : List Value) : Prop where
 cell : ∀ j v, cs[j]? = some v -> w.cell? ⟨b, j, none⟩ = some v
 lt : b < w.heap.size
theorem BoxAt.more {w w' : World} {b : Nat} {cs : List Value} (h : BoxAt w b cs) (hk : Kept [] w w') : BoxAt w' b cs := ⟨fun j v hv => (hk.cell (p := ⟨b, j, none⟩) h.lt (by simp)).trans (h.cell j v hv), Nat.lt_of_lt_of_le h.lt hk.size⟩
theorem BoxAt.below {w w' : World} {b : Nat} {cs : List Value} (h : BoxAt w b cs) (hb : Below w.heap.size w w') : BoxAt w' b cs := h.more (Below.kept hb [])
theorem BoxAt.drew {w : World} {b : Nat} {cs : List Value} (h : BoxAt w b cs) : BoxAt w.drew b cs := h.more (Kept.refl [] w).drew
theorem BoxAt.new (w : World) (cs : List Value) (T : Nat) : BoxAt (w.alloc (.cells cs.toArray T)) w.heap.size cs := ⟨fun j v hv => by simp [hv], by simp⟩
theorem l_Le (v : Int) (n : Nat) (hn : n <= 8) (w : World) : CK 147 #[.int .i64 v, .int .i64 n] (.string (leA v n)) w := (a_Le v n hn w).mono (fun e w' h => ⟨h.1, Below.kept h.2 []⟩)
def wideS (a b : Nat) : ByteArray := leA a 4 ++ leA b 4
theorem wideS_size (a b : Nat) : (wideS a b).size = 8 := by unfold wideS; rw [ByteArray.size_append, leA_size, leA_size]
theorem x_wideShow (a b : Nat) (w : World) :
 CK 149 #[.agg #[.int .i64 a, .int .i64 b]] (.string (wideS a b)) w := by
 have L1 := fun W => hide1 (l_Le (a : Int) 4 (by decide) W)
 have L2 := fun W => hide1 (l_Le (b : Int) 4 (by decide) W)
 obtain ⟨c, hc, hcs, ha⟩ := add_in (leA a 4) (leA b 4) (by rw [leA_size, leA_size]; decide)
 unfold wideS
 rw [<- hc]
 clear hc hcs
 obtain ⟨u1, h1⟩ := zn1 (leA a 4)
 obtain ⟨u2, h2⟩ := zn1 (leA b 4)
 simp only [<- h1, <- h2] at L1 L2 ha
 clear h1 h2
 have bx0 : BoxAt (w.alloc (.cells #[.int .i64 a, .int .i64 b] 69)).drew w.heap.size [.int .i64 a, .int .i64 b] := (BoxAt.new w [.int .i64 a, .int .i64 b] _).drew
 have hk0 : Kept [] w (w.alloc (.cells #[.int .i64 a, .int .i64 b] 69)).drew := ((Kept.refl _ _).alloc _).drew
 go_enter func149, ntmps149
 go_upto_region 1 with fail
 go_region_held3 (fun w' => w'.cell? ⟨w.heap.size, 0, none⟩ = some (.int .i64 a) /\ w'.cell? ⟨w.heap.size, 1, none⟩ = some (.int .i64 b)) (first | go_keep | exact ⟨bx1.cell 0 _ rfl, bx1.cell 1 _ rfl⟩ | exact ⟨bx2.cell 0 _ rfl, bx2.cell 1 _ rfl⟩) (first | (go_at_call_of 147 (Value.int IntKind.i64 (a : Int)); refine (L1 _).out.mono ?_; rintro e w1 ⟨rfl, hk1⟩; have bx1 := bx0.more hk1) | (go_at_call_of 147 (Value.int IntKind.i64 (b : Int)); refine (L2 _).out.mono ?_; rintro e w2 ⟨rfl, hk2⟩; have bx2 := bx1.more hk2))
 all_goals
  go_wp2_with fail
  go_ret
  exact ⟨rfl, (hk0.trans hk1).trans hk2⟩
theorem x_eith (b : Bool) (s t : ByteArray) (w : World) :
 CS 148 #[.bool b, .string s, .string t] (.string (if b = true then s else t)) w := by
 cases b
 all_goals
  go_enter func148, ntmps148
  go_wp2_with fail
  go_ret
  exact ⟨rfl, rfl⟩
def timerS (B : BusS) : ByteArray := (leA B.msip 1 ++ wideS B.time B.timeh) ++ wideS B.cmp B.cmph
theorem x_timerShow (B : BusS) (w : World) :
 CK 108 #[.agg #[.int .i64 B.msip, .int .i64 B.time, .int .i64 B.timeh, .int .i64 B.cmp, .int .i64 B.cmph]] (.string (timerS B)) w := by
 obtain ⟨m, t, th, c, ch, h5⟩ : ∃ m t th c ch, m = B.msip /\ t = B.time /\ th = B.timeh /\ c = B.cmp /\ ch = B.cmph := ⟨_, _, _, _, _, rfl, rfl, rfl, rfl, rfl⟩
 obtain ⟨e1, e2, e3, e4, e5⟩ := h5
 unfold timerS
 simp only [<- e1, <- e2, <- e3, <- e4, <- e5]
 clear e1 e2 e3 e4 e5
 have L1 := fun W => hide1 (l_Le (m : Int) 1 (by decide) W)
 have L2 := fun W => hide1 (x_wideShow t th W)
 have L3 := fun W => hide1 (x_wideShow c ch W)
 obtain ⟨s1, h1, z1, a1⟩ := add_in (leA m 1) (wideS t th) (by rw [leA_size, wideS_size]; decide)
 obtain ⟨s2, h2, z2, a2⟩ := add_in s1 (wideS c ch) (by rw [z1, leA_size, wideS_size, wideS_size]; decide)
 rw [<- h1, <- h2]
 clear h1 h2 z1 z2
 obtain ⟨u1, h1⟩ := zn1 (leA m 1)
 obtain ⟨u2, h2⟩ := zn1 (wideS t th)
 obtain ⟨u3, h3⟩ := zn1 (wideS c ch)
 simp only [<- h1, <- h2, <- h3] at L1 L2 L3 a1 a2
 clear h1 h2 h3
 have bx0 : BoxAt (w.alloc (.cells #[.int .i64 m, .int .i64 t, .int .i64 th, .int .i64 c, .int .i64 ch] 73)).drew w.heap.size [.int .i64 m, .int .i64 t, .int .i64 th, .int .i64 c, .int .i64 ch] := (BoxAt.new w [.int .i64 m, .int .i64 t, .int .i64 th, .int .i64 c, .int .i64 ch] _).drew
 have hk0 : Kept [] w (w.alloc (.cells #[.int .i64 m, .int .i64 t, .int .i64 th, .int .i64 c, .int .i64 ch] 73)).drew := ((Kept.refl _ _).alloc _).drew
 go_enter func108, ntmps108
 go_upto_region 1 with fail
 go_region_held3 (fun w' => w'.cell? ⟨w.heap.size, 0, none⟩ = some (.int .i64 m) /\ w'.cell? ⟨w.heap.size, 1, none⟩ = some (.int .i64 t) /\ w'.cell? ⟨w.heap.size, 2, none⟩ = some (.int .i64 th) /\ w'.cell? ⟨w.heap.size, 3, none⟩ = some (.int .i64 c) /\ w'.cell? ⟨w.heap.size, 4, none⟩ = some (.int .i64 ch)) (first | go_keep | exact ⟨bx1.cell 0 _ rfl, bx1.cell 1 _ rfl, bx1.cell 2 _ rfl, bx1.cell 3 _ rfl, bx1.cell 4 _ rfl⟩ | exact ⟨bx2.cell 0 _ rfl, bx2.cell 1 _ rfl, bx2.cell 2 _ rfl, bx2.cell 3 _ rfl, bx2.cell 4 _ rfl⟩ | exact ⟨bx3.cell 0 _ rfl, bx3.cell 1 _ rfl, bx3.cell 2 _ rfl, bx3.cell 3 _ rfl, bx3.cell 4 _ rfl⟩) (first | (go_at_call 147; refine (L1 _).out.mono ?_; rintro e w1 ⟨rfl, hk1⟩; have bx1 := bx0.more hk1) | (go_at_call_of 149 (Value.agg #[Value.int IntKind.i64 (t : Int), Value.int IntKind.i64 (th : Int)]); refine (L2 _).out.mono ?_; rintro e w2 ⟨rfl, hk2⟩; have bx2 := bx1.more hk2) | (go_at_call_of 149 (Value.agg #[Value.int IntKind.i64 (c : Int), Value.int IntKind.i64 (ch : Int)]); refine (L3 _).out.mono ?_; rintro e w3 ⟨rfl, hk3⟩; have bx3 := bx2.more hk3))
 all_goals
  go_wp2_with fail
  go_ret
  exact ⟨rfl, ((hk0.trans hk1).trans hk2).trans hk3⟩
section
attribute [local go_sem ↓] Go.wp_at_zero Go.wp_at_succ
structure BoxF (w : World) (b : Nat) (cs : List Value) : Prop where
 cell : ∀ j v, cs[j]? = some v -> w.cell? ⟨b, j, none⟩ = some v
 fro : ∀ o, w.frozen? ⟨b, o, none⟩ = false
 lt : b < w.heap.size
theorem BoxF.more {w w' : World} {b : Nat} {cs : List Value} {F : List Nat} (h : BoxF w b cs) (hk : Kept F w w') (hn : ¬ b ∈ F) : BoxF w' b cs := ⟨fun j v hv => (hk.cell (p := ⟨b, j, none⟩) h.lt hn).trans (h.cell j v hv), fun o => (hk.frozen (p := ⟨b, o, none⟩) h.lt hn).trans (h.fro o), Nat.lt_of_lt_of_le h.lt hk.size⟩
theorem BoxF.kept {w w' : World} {b : Nat} {cs : List Value} (h : BoxF w b cs) (hk : Kept [] w w') : BoxF w' b cs := h.more hk (by simp)
theorem BoxF.drew {w : World} {b : Nat} {cs : List Value} (h : BoxF w b cs) : BoxF w.drew b cs := h.kept (Kept.refl [] w).drew
theorem BoxF.alloc {w : World} {b : Nat} {cs : List Value} (h : BoxF w b cs) (o : Obj) : BoxF (w.alloc o) b cs := h.kept ((Kept.refl [] w).alloc o)
theorem BoxF.new (w : World) (cs : List Value) (T : Nat) : BoxF (w.alloc (.cells cs.toArray T)) w.heap.size cs := ⟨fun j v hv => by simp [hv], fun o => by simp, by simp⟩
def tgtD (X : XS) (i : NI) : Nat := wordN ((X.x.getD i.rs1 0 : Int) + i.im)
def npcD (X : XS) (i : NI) : Nat :=
 if i.op = 3 \/ ((5 <= i.op /\ i.op <= 10) /\ holds i.op (X.x.getD i.rs1 0) (X.x.getD i.rs2 0) = true) then wordN ((X.pc : Int) + i.im)
 else if i.op = 4 then tgtD X i - tgtD X i % 2
 else if i.op = 67 then X.c.mepc else if i.op = 68 then X.c.sepc else behD X.pc i
theorem x_nextPc_jal (mb rb : Nat) (X : XS) (hpc : X.pc < 4294967296) (i : NI) (hi : NIOk i) (hop : i.op = 3) (w) (hw : Hid (XAt w mb rb X)) :
 CK 132 #[.pointer (some ⟨mb, 0, none⟩), niV i] (.int .i64 (wordN ((X.pc : Int) + i.im))) w := by
 have hlt := hw.out.lt
 have hlt' : ¬ mb = w.heap.size := by omega
 have c33 := hw.out.c33
 have i0 := hi.im0
 have i1 := hi.im1
 have WD := hide1 (x_word ((X.pc : Int) + i.im))
 have wr : IntKind.i64.wrap ((X.pc : Int) + i.im) = (X.pc : Int) + i.im := zq9
 obtain ⟨r, hr⟩ := zn1 (wordN ((X.pc : Int) + i.im))
 simp only [<- hr] at WD |-
 unfold niV
 rw [hop]
 clear hr hi hw hop
 go_enter func132, ntmps132
 go_upto_region 2 with fail
 exact zq268
theorem x_nextPc_br (mb rb X) (hX : XOk X) (i : NI) (hi : NIOk i) (hop : 5 <= i.op /\ i.op <= 10) (hh : holds i.op (X.x.getD i.rs1 0) (X.x.getD i.rs2 0) = true) (w) (hw : Hid (XAt w mb rb X)) :
 CK 132 #[.pointer (some ⟨mb, 0, none⟩), niV i] (.int .i64 (wordN ((X.pc : Int) + i.im))) w := by
 have hpc := hX.pc
 have hlt := hw.out.lt
 have hlt' : ¬ mb = w.heap.size := by omega
 have c33 := hw.out.c33
 have i0 := hi.im0
 have i1 := hi.im1
 have WD := hide1 (x_word ((X.pc : Int) + i.im))
 have wr : IntKind.i64.wrap ((X.pc : Int) + i.im) = (X.pc : Int) + i.im := zq9
 obtain ⟨r, hr⟩ := zn1 (wordN ((X.pc : Int) + i.im))
 simp only [<- hr] at WD |-
 have hwa : Hid (XAt (w.alloc (niC i)) mb rb X) := zq10
 have BR := hide1 (fun W h => x_branches mb rb X hX.xr i hi hop W h)
 simp only [hh] at BR
 unfold niC at hwa
 unfold niV at BR |-
 obtain ⟨op, rd, rs1, rs2, im, ln⟩ := i
 dsimp only at *
 have IB : Hid (∀ W, CS 192 #[.int .i64 op] (.bool true) W) := zq49
 have q3 : (op == 3) = false := by simp; omega
 clear hr hi hw hop hh hX
 go_enter func132, ntmps132
 go_wp2_with (first | (go_at_call 192; refine (IB.out _).mono ?_; rintro o w2 ⟨rfl, rfl⟩))
 refine (BR.out _ hwa).mono ?_
 rintro o w1 ⟨rfl, hk1⟩
 have hx1 := hwa.out.kept hk1
 have d33 := hx1.c33
 have hl1 := hx1.lt
 obtain ⟨ic0w1, ic1w1, ic2w1, ic3w1, ic4w1, ic5w1, ifw1, izw1, izw11, inw11, izw12, inw12, izw13, inw13, izw14, inw14⟩ : Zc6 w1 w.heap.size op rd rs1 rs2 im ln := zq156
 go_upto_region 2 with fail
 go_quiet ((go_at_call 135; exact Calls.quiet_of_same (WD.out _)))
 exact zq269
theorem x_nextPc_jalr (mb rb X) (hX : XOk X) (i : NI) (hi : NIOk i) (hop : i.op = 4) (w) (hw : Hid (XAt w mb rb X)) :
 CK 132 #[.pointer (some ⟨mb, 0, none⟩), niV i] (.int .i64 ((tgtD X i - tgtD X i % 2 : Nat) : Int)) w := by
 have hlt := hw.out.lt
 have hlt' : ¬ mb = w.heap.size := by omega
 have c33 := hw.out.c33
 have i0 := hi.im0
 have i1 := hi.im1
 have ha := hX.xr i.rs1
 have A1 := hide1 (fun W h => x_register mb rb X i.rs1 hi.rs1 W h)
 have hwa : Hid (XAt (w.alloc (niC i)) mb rb X) := zq10
 have hl : tgtD X i < 4294967296 := by unfold tgtD wordN; omega
 unfold tgtD at hl |-
 obtain ⟨a, hae⟩ := zn1 (X.x.getD i.rs1 0)
 simp only [<- hae] at ha A1 hl |-
 have WD := hide1 (x_word ((a : Int) + i.im))
 have wr : IntKind.i64.wrap ((a : Int) + i.im) = (a : Int) + i.im := zq9
 obtain ⟨t, ht⟩ := zn1 (wordN ((a : Int) + i.im))
 simp only [<- ht] at WD hl |-
 have et : ((t - t % 2 : Nat) : Int) = (t : Int) - (t : Int) % 2 := by omega
 rw [et]
 unfold niC at hwa
 unfold niV
 obtain ⟨op, rd, rs1, rs2, im, ln⟩ := i
 dsimp only at *
 have IB : Hid (∀ W, CS 192 #[.int .i64 op] (.bool false) W) := zq50
 subst hop
 clear ht hae hi hw hX et
 go_enter func132, ntmps132
 go_upto_region 4 with (first | (go_at_call 192; refine (IB.out _).mono ?_; rintro o w2 ⟨rfl, rfl⟩))
 go_quiet ((first | (go_at_call 39; first | exact Calls.quiet_of_same (A1.out _ hwa) | exact Calls.quiet_of_same (A1.out _ (hide1 (hwa.out.drewN _))) | exact Calls.quiet_of_same (A1.out _ (hide1 hwa.out.drew))) | (go_at_call 135; exact Calls.quiet_of_same (WD.out _))))
 exact zq264
theorem x_nextPc_mret (mb rb : Nat) (X : XS) (i : NI) (hop : i.op = 67) (w) (hw : Hid (XAt w mb rb X)) :
 CK 132 #[.pointer (some ⟨mb, 0, none⟩), niV i] (.int .i64 X.c.mepc) w := by
 have hlt := hw.out.lt
 have hlt' : ¬ mb = w.heap.size := by omega
 have ce := hw.out.c47
 exact zq270
theorem x_nextPc_sret (mb rb : Nat) (X : XS) (i : NI) (hop : i.op = 68) (w) (hw : Hid (XAt w mb rb X)) :
 CK 132 #[.pointer (some ⟨mb, 0, none⟩), niV i] (.int .i64 X.c.sepc) w := by
 have hlt := hw.out.lt
 have hlt' : ¬ mb = w.heap.size := by omega
 have ce := hw.out.c53
 exact zq270
theorem x_nextPc_oth (mb rb X) (hX : XOk X) (i : NI) (hi : NIOk i) (h3 : i.op ≠ 3) (h4 : i.op ≠ 4) (h67 : i.op ≠ 67) (h68 : i.op ≠ 68) (hop : ¬ (5 <= i.op /\ i.op <= 10)) (w) (hw : Hid (XAt w mb rb X)) :
 CK 132 #[.pointer (some ⟨mb, 0, none⟩), niV i] (.int .i64 (behD X.pc i)) w := by
 have BH := hide1 (fun W h => x_behind mb rb X hX.pc i hi W h)
 have hwa : Hid (XAt (w.alloc (niC i)) mb rb X) := zq10
 obtain ⟨r, hr⟩ := zn1 (behD X.pc i)
 simp only [<- hr] at BH |-
 unfold niC at hwa
 unfold niV at BH |-
 obtain ⟨op, rd, rs1, rs2, im, ln⟩ := i
 dsimp only at *
 have IB : Hid (∀ W, CS 192 #[.int .i64 op] (.bool false) W) := zq50
 have q3 : (op == 3) = false := by simp [h3]
 have q4 : (op == 4) = false := by simp [h4]
 have q67 : (op == 67) = false := by simp [h67]
 have q68 : (op == 68) = false := by simp [h68]
 clear hw hX hi hr h3 h4 h67 h68 hop
 go_enter func132, ntmps132
 go_wp2_with (first | (go_at_call 192; refine (IB.out _).mono ?_; rintro o w2 ⟨rfl, rfl⟩))
 refine (BH.out _ hwa).mono ?_
 rintro o w1 ⟨rfl, hk1⟩
 go_wp2_with fail
 go_ret
 exact ⟨rfl, ((Kept.refl _ _).alloc _).trans hk1⟩
theorem x_nextPc_bn (mb rb X) (hX : XOk X) (i : NI) (hi : NIOk i) (hop : 5 <= i.op /\ i.op <= 10) (hh : holds i.op (X.x.getD i.rs1 0) (X.x.getD i.rs2 0) = false) (w) (hw : Hid (XAt w mb rb X)) :
 CK 132 #[.pointer (some ⟨mb, 0, none⟩), niV i] (.int .i64 (behD X.pc i)) w := by
 have hlt := hw.out.lt
 have hrlt := hw.out.rlt
 have BH := hide1 (fun W h => x_behind mb rb X hX.pc i hi W h)
 have hwa : Hid (XAt (w.alloc (niC i)) mb rb X) := zq10
 have BR := hide1 (fun W h => x_branches mb rb X hX.xr i hi hop W h)
 simp only [hh] at BR
 obtain ⟨r, hr⟩ := zn1 (behD X.pc i)
 simp only [<- hr] at BH |-
 unfold niC at hwa
 unfold niV at BH BR |-
 obtain ⟨op, rd, rs1, rs2, im, ln⟩ := i
 dsimp only at *
 have IB : Hid (∀ W, CS 192 #[.int .i64 op] (.bool true) W) := zq49
 have q3 : (op == 3) = false := by simp; omega
 have q4 : (op == 4) = false := by simp; omega
 have q67 : (op == 67) = false := by simp; omega
 have q68 : (op == 68) = false := by simp; omega
 clear hw hX hi hr hop hh
 go_enter func132, ntmps132
 go_wp2_with (first | (go_at_call 192; refine (IB.out _).mono ?_; rintro o w2 ⟨rfl, rfl⟩))
 refine (BR.out _ hwa).mono ?_
 rintro o w1 ⟨rfl, hk1⟩
 have hx1 := hide1 (hwa.out.kept hk1)
 obtain ⟨ic0w1, ic1w1, ic2w1, ic3w1, ic4w1, ic5w1, ifw1, izw1, izw11, inw11, izw12, inw12, izw13, inw13, izw14, inw14⟩ : Zc6 w1 w.heap.size op rd rs1 rs2 im ln := zq156
 go_wp2_with fail
 refine (BH.out _ hx1).mono ?_
 rintro o w2 ⟨rfl, hk2⟩
 go_wp2_with fail
 go_ret
 refine ⟨rfl, ?_⟩
 exact zq271
theorem x_nextPc (mb rb X) (hX : XOk X) (i : NI) (hi : NIOk i) (w) (hw : Hid (XAt w mb rb X)) :
 CK 132 #[.pointer (some ⟨mb, 0, none⟩), niV i] (.int .i64 (npcD X i)) w := by
 unfold npcD
 by_cases h3 : i.op = 3
 . rw [if_pos (.inl h3)]
   exact x_nextPc_jal mb rb X hX.pc i hi h3 w hw
 by_cases hb : 5 <= i.op /\ i.op <= 10
 . cases hh : holds i.op (X.x.getD i.rs1 0) (X.x.getD i.rs2 0) with
   | true =>
    rw [if_pos (.inr ⟨hb, rfl⟩)]
    exact x_nextPc_br mb rb X hX i hi hb hh w hw
   | false =>
    rw [if_neg (by simp [h3]), if_neg (by omega), if_neg (by omega), if_neg (by omega)]
    exact x_nextPc_bn mb rb X hX i hi hb hh w hw
 rw [if_neg (by intro h; rcases h with h | h; exact h3 h; exact hb h.1)]
 by_cases h4 : i.op = 4
 . rw [if_pos h4]; exact x_nextPc_jalr mb rb X hX i hi h4 w hw
 rw [if_neg h4]
 by_cases h67 : i.op = 67
 . rw [if_pos h67]; exact x_nextPc_mret mb rb X i h67 w hw
 rw [if_neg h67]
 by_cases h68 : i.op = 68
 . rw [if_pos h68]; exact x_nextPc_sret mb rb X i h68 w hw
 rw [if_neg h68]
 exact x_nextPc_oth mb rb X hX i hi h3 h4 h67 h68 hb w hw
def rsvD (X : XS) (i : NI) : Nat :=
 if i.op = 1 then wordN (i.im * 4096) else if i.op = 2 then wordN ((X.pc : Int) + i.im * 4096) else if i.op = 3 \/ i.op = 4 then behD X.pc i
 else if i.op <= 27 then alu i.op (X.x.getD i.rs1 0) (wordN i.im) else alu i.op (X.x.getD i.rs1 0) (X.x.getD i.rs2 0)
theorem x_result_lui (mb rb X) (hX : XOk X) (i : NI) (hi : NIOk i) (hop : i.op = 1) (w) (hw : Hid (XAt w mb rb X)) :
 CK 196 #[.pointer (some ⟨mb, 0, none⟩), niV i] (.int .i64 (wordN (i.im * 4096) : Nat)) w := by
 have hlt := hw.out.lt
 have hlt' : ¬ mb = w.heap.size := by omega
 have c33 := hw.out.c33
 have hpc := hX.pc
 have i0 := hi.im0
 have i1 := hi.im1
 have ha := hX.xr i.rs1
 have hb := hX.xr i.rs2
 have A1 := hide1 (fun W h => x_register mb rb X i.rs1 hi.rs1 W h)
 have A2 := hide1 (fun W h => x_register mb rb X i.rs2 hi.rs2 W h)
 have BH := hide1 (fun W h => x_behind mb rb X hX.pc i hi W h)
 have hwa : Hid (XAt (w.alloc (niC i)) mb rb X) := zq10
 obtain ⟨a, hae⟩ := zn1 (X.x.getD i.rs1 0)
 obtain ⟨b, hbe⟩ := zn1 (X.x.getD i.rs2 0)
 simp only [<- hae] at ha A1 |-
 simp only [<- hbe] at hb A2 |-
 obtain ⟨bh, hbh⟩ := zn1 (behD X.pc i)
 simp only [<- hbh] at BH |-
 unfold niC at hwa
 unfold niV at BH |-
 obtain ⟨op, rd, rs1, rs2, im, ln⟩ := i
 dsimp only at *
 have WD := hide1 (x_word (im * 4096))
 obtain ⟨r, hr⟩ := zn1 (wordN (im * 4096))
 simp only [<- hr] at WD |-
 subst hop
 clear hr
 clear hw hX hi hae hbe hbh
 go_enter func196, ntmps196
 go_wp2_with fail
 refine (A1.out _ hwa).mono ?_
 rintro o w1 ⟨rfl, rfl⟩
 go_wp2_with (go_at_call 135; refine (WD.out _).mono ?_; rintro o w2 ⟨rfl, rfl⟩)
 exact zq247
theorem x_result_aui (mb rb X) (hX : XOk X) (i : NI) (hi : NIOk i) (hop : i.op = 2) (w) (hw : Hid (XAt w mb rb X)) :
 CK 196 #[.pointer (some ⟨mb, 0, none⟩), niV i] (.int .i64 (wordN ((X.pc : Int) + i.im * 4096) : Nat)) w := by
 have hlt := hw.out.lt
 have hlt' : ¬ mb = w.heap.size := by omega
 have c33 := hw.out.c33
 have hpc := hX.pc
 have i0 := hi.im0
 have i1 := hi.im1
 have ha := hX.xr i.rs1
 have hb := hX.xr i.rs2
 have A1 := hide1 (fun W h => x_register mb rb X i.rs1 hi.rs1 W h)
 have A2 := hide1 (fun W h => x_register mb rb X i.rs2 hi.rs2 W h)
 have BH := hide1 (fun W h => x_behind mb rb X hX.pc i hi W h)
 have hwa : Hid (XAt (w.alloc (niC i)) mb rb X) := zq10
 obtain ⟨a, hae⟩ := zn1 (X.x.getD i.rs1 0)
 obtain ⟨b, hbe⟩ := zn1 (X.x.getD i.rs2 0)
 simp only [<- hae] at ha A1 |-
 simp only [<- hbe] at hb A2 |-
 obtain ⟨bh, hbh⟩ := zn1 (behD X.pc i)
 simp only [<- hbh] at BH |-
 unfold niC at hwa
 unfold niV at BH |-
 obtain ⟨op, rd, rs1, rs2, im, ln⟩ := i
 dsimp only at *
 have WD := hide1 (x_word ((X.pc : Int) + im * 4096))
 have wr : IntKind.i64.wrap (im * 4096) = im * 4096 := zq9
 have wr2 : IntKind.i64.wrap ((X.pc : Int) + im * 4096) = (X.pc : Int) + im * 4096 := zq9
 obtain ⟨r, hr⟩ := zn1 (wordN ((X.pc : Int) + im * 4096))
 simp only [<- hr] at WD |-
 subst hop
 clear hr
 clear hw hX hi hae hbe hbh
 go_enter func196, ntmps196
 go_wp2_with fail
 refine (A1.out _ hwa).mono ?_
 rintro o w1 ⟨rfl, rfl⟩
 go_upto_region 5 with fail
 exact zq268
theorem x_result_jal (mb rb X) (hX : XOk X) (i : NI) (hi : NIOk i) (hop : i.op = 3) (w) (hw : Hid (XAt w mb rb X)) :
 CK 196 #[.pointer (some ⟨mb, 0, none⟩), niV i] (.int .i64 (behD X.pc i : Nat)) w := zq272
theorem x_result_jalr (mb rb X) (hX : XOk X) (i : NI) (hi : NIOk i) (hop : i.op = 4) (w) (hw : Hid (XAt w mb rb X)) :
 CK 196 #[.pointer (some ⟨mb, 0, none⟩), niV i] (.int .i64 (behD X.pc i : Nat)) w := zq272
theorem x_result_imm (mb rb X) (hX : XOk X) (i : NI) (hi : NIOk i) (hop : 19 <= i.op /\ i.op <= 27) (w) (hw : Hid (XAt w mb rb X)) :
 CK 196 #[.pointer (some ⟨mb, 0, none⟩), niV i] (.int .i64 (alu i.op (X.x.getD i.rs1 0) (wordN i.im) : Nat)) w := by
 have hlt := hw.out.lt
 have hlt' : ¬ mb = w.heap.size := by omega
 have c33 := hw.out.c33
 have hpc := hX.pc
 have i0 := hi.im0
 have i1 := hi.im1
 have ha := hX.xr i.rs1
 have hb := hX.xr i.rs2
 have A1 := hide1 (fun W h => x_register mb rb X i.rs1 hi.rs1 W h)
 have A2 := hide1 (fun W h => x_register mb rb X i.rs2 hi.rs2 W h)
 have BH := hide1 (fun W h => x_behind mb rb X hX.pc i hi W h)
 have hwa : Hid (XAt (w.alloc (niC i)) mb rb X) := zq10
 obtain ⟨a, hae⟩ := zn1 (X.x.getD i.rs1 0)
 obtain ⟨b, hbe⟩ := zn1 (X.x.getD i.rs2 0)
 simp only [<- hae] at ha A1 |-
 simp only [<- hbe] at hb A2 |-
 obtain ⟨bh, hbh⟩ := zn1 (behD X.pc i)
 simp only [<- hbh] at BH |-
 unfold niC at hwa
 unfold niV at BH |-
 obtain ⟨op, rd, rs1, rs2, im, ln⟩ := i
 dsimp only at *
 have WD := hide1 (x_word im)
 have hwl : wordN im < 4294967296 := by unfold wordN; omega
 have hal := alu_regD op hop.1 hop.2 a (wordN im)
 have RF := hide1 (x_registerForm op)
 have RK := hide1 (x_reckon (xregD op) hal.2.1 hal.2.2 a (wordN im) ha hwl)
 simp only [hal.1] at RK
 obtain ⟨u, hu⟩ := zn1 (wordN im)
 simp only [<- hu] at WD RK |-
 obtain ⟨f, hf⟩ := zn1 (xregD op)
 simp only [<- hf] at RF RK
 obtain ⟨r, hr⟩ := zn1 (alu op a u)
 simp only [<- hr] at RK |-
 have q1 : (op == 1) = false := by simp; omega
 have q2 : (op == 2) = false := by simp; omega
 have q3 : (op == 3) = false := by simp; omega
 have q4 : (op == 4) = false := by simp; omega
 have q27 : decide (op <= 27) = true := by simp; omega
 clear hr hf hu hal hwl hop
 clear hw hX hi hae hbe hbh
 go_enter func196, ntmps196
 go_wp2_with fail
 refine (A1.out _ hwa).mono ?_
 rintro o w1 ⟨rfl, rfl⟩
 go_upto_region 9 with fail
 go_quiet ((first | (go_at_call 135; exact Calls.quiet_of_same (WD.out _)) | (go_at_call 265; exact Calls.quiet_of_same (RF.out _)) | (go_at_call 264; exact Calls.quiet_of_same (RK.out _))))
 exact zq264
theorem x_result_reg (mb rb X) (hX : XOk X) (i : NI) (hi : NIOk i) (hop : 28 <= i.op /\ i.op <= 37) (w) (hw : Hid (XAt w mb rb X)) :
 CK 196 #[.pointer (some ⟨mb, 0, none⟩), niV i] (.int .i64 (alu i.op (X.x.getD i.rs1 0) (X.x.getD i.rs2 0) : Nat)) w := by
 have hlt := hw.out.lt
 have hlt' : ¬ mb = w.heap.size := by omega
 have c33 := hw.out.c33
 have hpc := hX.pc
 have i0 := hi.im0
 have i1 := hi.im1
 have ha := hX.xr i.rs1
 have hb := hX.xr i.rs2
 have A1 := hide1 (fun W h => x_register mb rb X i.rs1 hi.rs1 W h)
 have A2 := hide1 (fun W h => x_register mb rb X i.rs2 hi.rs2 W h)
 have BH := hide1 (fun W h => x_behind mb rb X hX.pc i hi W h)
 have hwa : Hid (XAt (w.alloc (niC i)) mb rb X) := zq10
 obtain ⟨a, hae⟩ := zn1 (X.x.getD i.rs1 0)
 obtain ⟨b, hbe⟩ := zn1 (X.x.getD i.rs2 0)
 simp only [<- hae] at ha A1 |-
 simp only [<- hbe] at hb A2 |-
 obtain ⟨bh, hbh⟩ := zn1 (behD X.pc i)
 simp only [<- hbh] at BH |-
 unfold niC at hwa
 unfold niV at BH |-
 obtain ⟨op, rd, rs1, rs2, im, ln⟩ := i
 dsimp only at *
 have RK := hide1 (x_reckon op hop.1 hop.2 a b ha hb)
 obtain ⟨r, hr⟩ := zn1 (alu op a b)
 simp only [<- hr] at RK |-
 have q1 : (op == 1) = false := by simp; omega
 have q2 : (op == 2) = false := by simp; omega
 have q3 : (op == 3) = false := by simp; omega
 have q4 : (op == 4) = false := by simp; omega
 have q27 : decide (op <= 27) = false := by simp; omega
 have q37 : decide (op <= 37) = true := by simp; omega
 clear hr hop
 clear hw hX hi hae hbe hbh
 go_enter func196, ntmps196
 go_wp2_with fail
 refine (A1.out _ hwa).mono ?_
 rintro o w1 ⟨rfl, rfl⟩
 go_upto_region 11 with fail
 go_quiet ((first | (go_at_call 39; first | exact Calls.quiet_of_same (A2.out _ hwa) | exact Calls.quiet_of_same (A2.out _ (hide1 (hwa.out.drewN _))) | exact Calls.quiet_of_same (A2.out _ (hide1 hwa.out.drew))) | (go_at_call 264; exact Calls.quiet_of_same (RK.out _))))
 exact zq264
theorem x_result_mul (mb rb X) (hX : XOk X) (i : NI) (hi : NIOk i) (hop : 42 <= i.op /\ i.op <= 49) (w) (hw : Hid (XAt w mb rb X)) :
 CK 196 #[.pointer (some ⟨mb, 0, none⟩), niV i] (.int .i64 (alu i.op (X.x.getD i.rs1 0) (X.x.getD i.rs2 0) : Nat)) w := by
 have hlt := hw.out.lt
 have hlt' : ¬ mb = w.heap.size := by omega
 have c33 := hw.out.c33
 have hpc := hX.pc
 have i0 := hi.im0
 have i1 := hi.im1
 have ha := hX.xr i.rs1
 have hb := hX.xr i.rs2
 have A1 := hide1 (fun W h => x_register mb rb X i.rs1 hi.rs1 W h)
 have A2 := hide1 (fun W h => x_register mb rb X i.rs2 hi.rs2 W h)
 have BH := hide1 (fun W h => x_behind mb rb X hX.pc i hi W h)
 have hwa : Hid (XAt (w.alloc (niC i)) mb rb X) := zq10
 obtain ⟨a, hae⟩ := zn1 (X.x.getD i.rs1 0)
 obtain ⟨b, hbe⟩ := zn1 (X.x.getD i.rs2 0)
 simp only [<- hae] at ha A1 |-
 simp only [<- hbe] at hb A2 |-
 obtain ⟨bh, hbh⟩ := zn1 (behD X.pc i)
 simp only [<- hbh] at BH |-
 unfold niC at hwa
 unfold niV at BH |-
 obtain ⟨op, rd, rs1, rs2, im, ln⟩ := i
 dsimp only at *
 have RK := hide1 (x_multiply op hop.1 hop.2 a b ha hb)
 obtain ⟨r, hr⟩ := zn1 (alu op a b)
 simp only [<- hr] at RK |-
 have q1 : (op == 1) = false := by simp; omega
 have q2 : (op == 2) = false := by simp; omega
 have q3 : (op == 3) = false := by simp; omega
 have q4 : (op == 4) = false := by simp; omega
 have q27 : decide (op <= 27) = false := by simp; omega
 have q37 : decide (op <= 37) = false := by simp; omega
 clear hr hop
 clear hw hX hi hae hbe hbh
 go_enter func196, ntmps196
 go_wp2_with fail
 refine (A1.out _ hwa).mono ?_
 rintro o w1 ⟨rfl, rfl⟩
 go_upto_region 12 with fail
 go_quiet ((first | (go_at_call 39; first | exact Calls.quiet_of_same (A2.out _ hwa) | exact Calls.quiet_of_same (A2.out _ (hide1 (hwa.out.drewN _))) | exact Calls.quiet_of_same (A2.out _ (hide1 hwa.out.drew))) | (go_at_call 266; exact Calls.quiet_of_same (RK.out _))))
 exact zq264
theorem x_result (mb rb X) (hX : XOk X) (i : NI) (hi : NIOk i) (hr : xresD i.op = true) (w) (hw : Hid (XAt w mb rb X)) :
 CK 196 #[.pointer (some ⟨mb, 0, none⟩), niV i] (.int .i64 (rsvD X i)) w := by
 unfold xresD at hr
 simp only [decide_eq_true_eq] at hr
 unfold rsvD
 by_cases h1 : i.op = 1
 . rw [if_pos h1]; exact x_result_lui mb rb X hX i hi h1 w hw
 rw [if_neg h1]
 by_cases h2 : i.op = 2
 . rw [if_pos h2]; exact x_result_aui mb rb X hX i hi h2 w hw
 rw [if_neg h2]
 by_cases h3 : i.op = 3
 . rw [if_pos (.inl h3)]; exact x_result_jal mb rb X hX i hi h3 w hw
 by_cases h4 : i.op = 4
 . rw [if_pos (.inr h4)]; exact x_result_jalr mb rb X hX i hi h4 w hw
 rw [if_neg (by omega)]
 by_cases h5 : i.op <= 27
 . rw [if_pos h5]; exact x_result_imm mb rb X hX i hi (by omega) w hw
 rw [if_neg h5]
 by_cases h6 : i.op <= 37
 . exact x_result_reg mb rb X hX i hi (by omega) w hw
 . exact x_result_mul mb rb X hX i hi (by omega) w hw
theorem cell_drewN (w : World) (n : Nat) (p : Addr) : (w.drewN n).cell? p = w.cell? p := rfl
theorem fro_drewN (w : World) (n : Nat) (p : Addr) : (w.drewN n).frozen? p = w.frozen? p := rfl
def nD (op : Int) : Nat := (xaccD op).toNat
theorem nD_cast (op : Int) : ((nD op : Nat) : Int) = xaccD op := by
 unfold nD xaccD; repeat' split
 all_goals omega
theorem nD_le (op : Int) : 1 <= nD op /\ nD op <= 4 := by
 have := nD_cast op
 unfold xaccD at this
 repeat' split at this
 all_goals omega
theorem reach_takes (B : BusS) (C : CsrS) (va n k : Nat) (h : (reachD B C va n k).1.fault = 0) : takesD ((reachD B C va n k).1.pa1 : Nat) ((reachD B C va n k).1.n1 : Nat) B.ram.length = true /\ (0 < (reachD B C va n k).1.n2 -> takesD ((reachD B C va n k).1.pa2 : Nat) ((reachD B C va n k).1.n2 : Nat) B.ram.length = true) := by
 have l1 := tr_len B C va k
 have l2 := tr_len (trD B C va k).2 C ((va + roomD va n) % 4294967296) k
 revert h
 unfold reachD reach1 reach2
 obtain ⟨kk, hk⟩ := zn1 (roomD va n)
 rw [<- hk] at l2 |-
 obtain ⟨T, hT⟩ := zn1 (trD B C va k)
 rw [<- hT] at l1 l2 |-
 obtain ⟨U, hU⟩ := zn1 (trD T.2 C ((va + kk) % 4294967296) k)
 rw [<- hU] at l2 |-
 rw [l1] at l2
 repeat' split
 all_goals (intro h; dsimp only at h |-)
 all_goals first
  | (exfalso; omega)
  | (exact ⟨by rw [<- l1]; assumption, fun _ => by rw [<- l2]; assumption⟩)
  | (exact ⟨by rw [<- l1]; assumption, fun h => by omega⟩)
def ldvD (op : Int) (v : Nat) : Nat := if op = 11 \/ op = 12 then wordN (xextD v (xaccD op)) else v
def vaD (X : XS) (i : NI) : Nat := wordN ((X.x.getD i.rs1 0 : Int) + i.im)
def excA (c t : Int) : Value := .agg #[.int .i64 c, .int .i64 t]
def ldF (X : XS) (i : NI) (S : Spn × BusS) : (Int × Nat) × XS :=
 if S.1.fault = 0 then ((-1, 0), setXR (X.withB (loadD S.2 S.1).2) i.rd (ldvD i.op (loadD S.2 S.1).1)) else ((xfauD S.1.fault 1, S.1.wh), X.withB S.2)
def ldX (X : XS) (i : NI) : (Int × Nat) × XS := ldF X i (reachD X.b (xC X) (vaD X i) (nD i.op) 1)
theorem x_load_f (mb rb X) (hX : XOk X) (i : NI) (hi : NIOk i) (hf : (reachD X.b (xC X) (vaD X i) (nD i.op) 1).1.fault ≠ 0) (w) (hw : Hid (XAt w mb rb X)) :
 CX 199 #[.pointer (some ⟨mb, 0, none⟩), niV i] (excA (ldX X i).1.1 (ldX X i).1.2) [mb, rb] mb rb ((ldX X i).2) w := by
 have hlt := hw.out.lt
 have hrlt := hw.out.rlt
 have hlt' : ¬ mb = w.heap.size := by omega
 have i0 := hi.im0
 have i1 := hi.im1
 have ha := hX.xr i.rs1
 have A1 := hide1 (fun W h => x_register mb rb X i.rs1 hi.rs1 W h)
 have hwa : Hid (XAt ((w.alloc (niC i)).alloc (.cells #[.int .i64 0, .int .i64 0] 118)) mb rb X) := zq22
 have hva : vaD X i < 4294967296 := zq51
 have hnn := nD_le i.op
 have RE := hide1 (fun W h => x_reach mb rb X hX (vaD X i) (nD i.op) 1 hva hnn.1 hnn.2 (.inr (.inl rfl)) W h)
 have AS : Hid (∀ W, CS 268 #[.int .i64 i.op] (.int .i64 (nD i.op)) W) := zq52
 have WD : Hid (∀ W, CS 135 #[.int .i64 ((X.x.getD i.rs1 0 : Int) + i.im)] (.int .i64 (vaD X i)) W) := zq53
 have wr : IntKind.i64.wrap ((X.x.getD i.rs1 0 : Int) + i.im) = (X.x.getD i.rs1 0 : Int) + i.im := zq9
 have hok := reach_ok hX.b (xC X) (vaD X i) (nD i.op) 1
 have hsp := reach_sp X.b (xC X) (vaD X i) (nD i.op) 1 hva hnn.1
 have htk := reach_takes X.b (xC X) (vaD X i) (nD i.op) 1
 have hle := reach_len X.b (xC X) (vaD X i) (nD i.op) 1
 unfold ldX ldF
 obtain ⟨S, hS⟩ := zn1 (reachD X.b (xC X) (vaD X i) (nD i.op) 1)
 simp only [<- hS] at RE hok hsp htk hle hf |-
 obtain ⟨va, hvv⟩ := zn1 (vaD X i)
 obtain ⟨n, hnv⟩ := zn1 (nD i.op)
 obtain ⟨a, hae⟩ := zn1 (X.x.getD i.rs1 0)
 simp only [<- hvv] at RE WD
 simp only [<- hnv] at RE AS hsp hnn
 simp only [<- hae] at A1 WD wr ha
 clear hS hvv hae
 obtain ⟨⟨pa1, n1, pa2, n2, ft, wh⟩, B⟩ := S
 have hXB := XS.okB hX hok
 rw [<- hle] at htk
 dsimp only at RE hok hsp htk hle hf hXB |-
 rw [if_neg hf]
 unfold niC at hwa
 unfold niV
 obtain ⟨op, rd, rs1, rs2, im, ln⟩ := i
 dsimp only at *
 rw [show spV ⟨pa1, n1, pa2, n2, ft, wh⟩ 1 = .tuple #[.agg #[.int .i64 0, .int .i64 0], .agg #[.int .i64 0, .int .i64 0], .agg #[.int .i64 (xfauD ft 1), .int .i64 wh]] by unfold spV; dsimp only; rw [if_neg hf]; rfl] at RE
 have hn := xfau_ne ft 1
 obtain ⟨c, hc⟩ := zn1 (xfauD ft 1)
 simp only [<- hc] at RE hn |-
 unfold excA
 clear hw hX hi hc hf htk hsp hle hok hXB hnv hnn hva
 go_enter func199, ntmps199
 go_upto_region 1 with fail
 go_quiet ((first | (go_at_call 39; first | exact Calls.quiet_of_same (A1.out _ hwa) | exact Calls.quiet_of_same (A1.out _ (hide1 (hwa.out.drewN _))) | exact Calls.quiet_of_same (A1.out _ (hide1 hwa.out.drew))) | (go_at_call 135; exact Calls.quiet_of_same (WD.out _))))
 go_wp2_with (go_at_call 268; refine (AS.out _).mono ?_; rintro o w2 ⟨rfl, rfl⟩)
 refine (RE.out _ (hide1 (hwa.out.drewN _))).mono ?_
 rintro o w1 ⟨rfl, hx1, hk1⟩
 obtain ⟨ic0w1, ic1w1, ic2w1, ic3w1, ic4w1, ic5w1, ifw1, izw1, izw11, inw11, izw12, inw12, izw13, inw13, izw14, inw14⟩ : Zc6 w1 w.heap.size op rd rs1 rs2 im ln := zq157
 obtain ⟨rc0w1, rc1w1, rfw1, rzw1, rzw11, rnw11, rzw12, rnw12, rzw13, rnw13, rzw14, rnw14⟩ : Zc2 w1 (w.heap.size + 1) 0 0 := zq158
 go_wp2_with (first | (go_at_call 82; refine (x_none _ _ _).mono ?_; rintro o wn ⟨rfl, rfl⟩))
 refine bodyPost_ret (v := .agg #[.int .i64 c, .int .i64 wh]) (by simp [results, results199, go_sem, rc0w1, rc1w1, rzw1, rzw11, rnw11, rzw12, rnw12, rzw13, rnw13, rzw14, rnw14, Nat.ne_of_lt, Nat.ne_of_gt]) rfl ⟨rfl, hx1.box (w.heap.size + 1) ?_ (by omega) (by omega), ?_⟩
 . exact zq273
 . exact zq274
theorem mul_pow256 (u v n1 n2 n : Nat) (hu : u < 256 ^ n1) (hv : v < 256 ^ n2) (hn : n1 + n2 = n) (h4 : n <= 4) : u + v * 256 ^ n1 < 4294967296 := by
 have h1 : (v + 1) * 256 ^ n1 <= 256 ^ n2 * 256 ^ n1 := Nat.mul_le_mul_right _ hv
 rw [<- Nat.pow_add, Nat.add_comm n2 n1, hn] at h1
 have h2 : 256 ^ n <= 256 ^ 4 := Nat.pow_le_pow_right (by omega) h4
 have h3 : (256 : Nat) ^ 4 = 4294967296 := by decide
 rw [Nat.add_mul] at h1
 omega
theorem x_load_y1u (mb rb X) (hX : XOk X) (i : NI) (hi : NIOk i) (hf : (reachD X.b (xC X) (vaD X i) (nD i.op) 1).1.fault = 0) (h2 : (reachD X.b (xC X) (vaD X i) (nD i.op) 1).1.n2 = 0) (hs : ¬ (i.op = 11 \/ i.op = 12)) (w) (hw : Hid (XAt w mb rb X)) :
 CX 199 #[.pointer (some ⟨mb, 0, none⟩), niV i] (excA (ldX X i).1.1 (ldX X i).1.2) [mb, rb] mb rb ((ldX X i).2) w := by
 have hlt := hw.out.lt
 have hrlt := hw.out.rlt
 have hlt' : ¬ mb = w.heap.size := by omega
 have i0 := hi.im0
 have i1 := hi.im1
 have ha := hX.xr i.rs1
 have A1 := hide1 (fun W h => x_register mb rb X i.rs1 hi.rs1 W h)
 have hwa : Hid (XAt ((w.alloc (niC i)).alloc (.cells #[.int .i64 0, .int .i64 0] 118)) mb rb X) := zq22
 have hva : vaD X i < 4294967296 := zq51
 have hnn := nD_le i.op
 have RE := hide1 (fun W h => x_reach mb rb X hX (vaD X i) (nD i.op) 1 hva hnn.1 hnn.2 (.inr (.inl rfl)) W h)
 have AS : Hid (∀ W, CS 268 #[.int .i64 i.op] (.int .i64 (nD i.op)) W) := zq52
 have WD : Hid (∀ W, CS 135 #[.int .i64 ((X.x.getD i.rs1 0 : Int) + i.im)] (.int .i64 (vaD X i)) W) := zq53
 have wr : IntKind.i64.wrap ((X.x.getD i.rs1 0 : Int) + i.im) = (X.x.getD i.rs1 0 : Int) + i.im := zq9
 have hok := reach_ok hX.b (xC X) (vaD X i) (nD i.op) 1
 have hsp := reach_sp X.b (xC X) (vaD X i) (nD i.op) 1 hva hnn.1
 have htk := reach_takes X.b (xC X) (vaD X i) (nD i.op) 1
 have hle := reach_len X.b (xC X) (vaD X i) (nD i.op) 1
 unfold ldX ldF
 obtain ⟨S, hS⟩ := zn1 (reachD X.b (xC X) (vaD X i) (nD i.op) 1)
 simp only [<- hS] at RE hok hsp htk hle hf h2 |-
 obtain ⟨va, hvv⟩ := zn1 (vaD X i)
 obtain ⟨n, hnv⟩ := zn1 (nD i.op)
 obtain ⟨a, hae⟩ := zn1 (X.x.getD i.rs1 0)
 simp only [<- hvv] at RE WD
 simp only [<- hnv] at RE AS hsp hnn
 simp only [<- hae] at A1 WD wr ha
 clear hS hvv hae
 obtain ⟨⟨pa1, n1, pa2, n2, ft, wh⟩, B⟩ := S
 have hXB := XS.okB hX hok
 rw [<- hle] at htk
 dsimp only at RE hok hsp htk hle hf h2 hXB |-
 rw [if_pos hf]
 subst hf
 have htk := htk rfl
 have hx32 := hX.x
 have hrd := hi.rd
 have sp1 := hsp.n1 rfl
 have sps := hsp.sum rfl
 have spp1 := hsp.pa1
 have spp2 := hsp.pa2
 dsimp only at sp1 sps spp1 spp2
 subst h2
 unfold niC at hwa
 unfold niV
 rw [show spV ⟨pa1, n1, pa2, 0, 0, wh⟩ 1 = .tuple #[.agg #[.int .i64 pa1, .int .i64 n1], .agg #[.int .i64 pa2, .int .i64 0], .agg #[.int .i64 (-1), .int .i64 0]] from rfl] at RE
 have R1 := hide1 (fun W h => x_read mb rb (X.withB B) hok pa1 n1 spp1 sp1 (by omega) htk.1 W h)
 have r1ok := readD_ok hok pa1 n1
 have r1lt := readD_lt hok pa1 n1 sp1
 have r1len := readD_len B pa1 n1
 have eB : (X.withB B).b = B := rfl
 rw [eB] at R1
 unfold loadD
 dsimp only
 rw [if_neg (by omega)]
 obtain ⟨T1, hT1⟩ := zn1 (readD B pa1 n1)
 simp only [<- hT1] at R1 r1ok r1lt  |-
 clear hT1
 obtain ⟨u, B1⟩ := T1
 have hBB : (X.withB B).withB B1 = X.withB B1 := rfl
 rw [hBB] at R1
 obtain ⟨s, hse⟩ := zn1 (8 * n1)
 have hs64 : s <= 32 := by omega
 have e8 : (8 : Int) * (n1 : Int) = (s : Int) := by omega
 have hp : u < 4294967296 := zq59
 obtain ⟨V, hV⟩ := zn1 (u)
 have hVl : V < 4294967296 := by rw [hV]; exact hp
 have SR := hide1 (fun W h => x_setRegister mb rb (X.withB B1) hx32 i.rd (ldvD i.op u) hrd W h)
 have eL : ldvD i.op V = V := by unfold ldvD; rw [if_neg hs]
 rw [<- hV] at SR |-
 rw [eL] at SR |-
 have eV : (u : Int) = (V : Int) := by rw [hV]
 have q11 : (i.op == 11) = false := by simp; omega
 have q12 : (i.op == 12) = false := by simp; omega
 obtain ⟨op, rd, rs1, rs2, im, ln⟩ := i
 dsimp only at *
 unfold excA
 clear hw hX hi htk hsp hle hok hXB hnv hnn hva hse hV hp eL r1ok r1lt r1len hs hx32 hrd sps
 go_enter func199, ntmps199
 go_upto_region 1 with fail
 go_quiet ((first | (go_at_call 39; first | exact Calls.quiet_of_same (A1.out _ hwa) | exact Calls.quiet_of_same (A1.out _ (hide1 (hwa.out.drewN _))) | exact Calls.quiet_of_same (A1.out _ (hide1 hwa.out.drew))) | (go_at_call 135; exact Calls.quiet_of_same (WD.out _))))
 go_wp2_with (go_at_call 268; refine (AS.out _).mono ?_; rintro o w2 ⟨rfl, rfl⟩)
 refine (RE.out _ (hide1 (hwa.out.drewN _))).mono ?_
 rintro o w1 ⟨rfl, hx1, hk1⟩
 obtain ⟨ic0w1, ic1w1, ic2w1, ic3w1, ic4w1, ic5w1, ifw1, izw1, izw11, inw11, izw12, inw12, izw13, inw13, izw14, inw14⟩ : Zc6 w1 w.heap.size op rd rs1 rs2 im ln := zq157
 obtain ⟨rc0w1, rc1w1, rfw1, rzw1, rzw11, rnw11, rzw12, rnw12, rzw13, rnw13, rzw14, rnw14⟩ : Zc2 w1 (w.heap.size + 1) 0 0 := zq158
 have hx1a := hide1 ((((hx1.alloc (.cells #[.int .i64 pa1, .int .i64 n1] 231)).alloc (.cells #[.int .i64 pa2, .int .i64 0] 231)).alloc (.cells #[.int .i64 (-1), .int .i64 0] 118)).alloc (.cells #[.int .i64 (-1), .int .i64 0] 118))
 go_wp2_with (first | (go_at_call 82; refine (x_none _ _ _).mono ?_; rintro o wn ⟨rfl, rfl⟩))
 refine (R1.out _ hx1a).mono ?_
 rintro o w2 ⟨rfl, hx2, hk2⟩
 obtain ⟨ic0w2, ic1w2, ic2w2, ic3w2, ic4w2, ic5w2, ifw2, izw2, izw21, inw21, izw22, inw22, izw23, inw23, izw24, inw24⟩ : Zc6 w2 w.heap.size op rd rs1 rs2 im ln := zq159
 obtain ⟨rc0w2, rc1w2, rfw2, rzw2, rzw21, rnw21, rzw22, rnw22, rzw23, rnw23, rzw24, rnw24⟩ : Zc2 w2 (w.heap.size + 1) 0 0 := zq160
 obtain ⟨fc0w2, fc1w2, ffw2, fzw2, fzw21, fnw21, fzw22, fnw22, fzw23, fnw23, fzw24, fnw24⟩ : Zc2 w2 w1.heap.size pa1 n1 := zq161
 obtain ⟨sc0w2, sc1w2, sfw2, szw2, szw21, snw21, szw22, snw22, szw23, snw23, szw24, snw24⟩ : Zc2 w2 (w1.heap.size + 1) pa2 0 := zq162
 go_wp2_with fail
 refine (x_read_0 mb pa2 _).mono ?_
 rintro o w3 ⟨rfl, hk3⟩
 have hx3 := hx2.kept hk3
 exact zq275
theorem x_load_y1s (mb rb X) (hX : XOk X) (i : NI) (hi : NIOk i) (hf : (reachD X.b (xC X) (vaD X i) (nD i.op) 1).1.fault = 0) (h2 : (reachD X.b (xC X) (vaD X i) (nD i.op) 1).1.n2 = 0) (hs : i.op = 11 \/ i.op = 12) (w) (hw : Hid (XAt w mb rb X)) :
 CX 199 #[.pointer (some ⟨mb, 0, none⟩), niV i] (excA (ldX X i).1.1 (ldX X i).1.2) [mb, rb] mb rb ((ldX X i).2) w := by
 have hlt := hw.out.lt
 have hrlt := hw.out.rlt
 have hlt' : ¬ mb = w.heap.size := by omega
 have i0 := hi.im0
 have i1 := hi.im1
 have ha := hX.xr i.rs1
 have A1 := hide1 (fun W h => x_register mb rb X i.rs1 hi.rs1 W h)
 have hwa : Hid (XAt ((w.alloc (niC i)).alloc (.cells #[.int .i64 0, .int .i64 0] 118)) mb rb X) := zq22
 have hva : vaD X i < 4294967296 := zq51
 have hnn := nD_le i.op
 have RE := hide1 (fun W h => x_reach mb rb X hX (vaD X i) (nD i.op) 1 hva hnn.1 hnn.2 (.inr (.inl rfl)) W h)
 have AS : Hid (∀ W, CS 268 #[.int .i64 i.op] (.int .i64 (nD i.op)) W) := zq52
 have WD : Hid (∀ W, CS 135 #[.int .i64 ((X.x.getD i.rs1 0 : Int) + i.im)] (.int .i64 (vaD X i)) W) := zq53
 have wr : IntKind.i64.wrap ((X.x.getD i.rs1 0 : Int) + i.im) = (X.x.getD i.rs1 0 : Int) + i.im := zq9
 have hok := reach_ok hX.b (xC X) (vaD X i) (nD i.op) 1
 have hsp := reach_sp X.b (xC X) (vaD X i) (nD i.op) 1 hva hnn.1
 have htk := reach_takes X.b (xC X) (vaD X i) (nD i.op) 1
 have hle := reach_len X.b (xC X) (vaD X i) (nD i.op) 1
 unfold ldX ldF
 obtain ⟨S, hS⟩ := zn1 (reachD X.b (xC X) (vaD X i) (nD i.op) 1)
 simp only [<- hS] at RE hok hsp htk hle hf h2 |-
 obtain ⟨va, hvv⟩ := zn1 (vaD X i)
 obtain ⟨n, hnv⟩ := zn1 (nD i.op)
 obtain ⟨a, hae⟩ := zn1 (X.x.getD i.rs1 0)
 simp only [<- hvv] at RE WD
 simp only [<- hnv] at RE AS hsp hnn
 simp only [<- hae] at A1 WD wr ha
 clear hS hvv hae
 obtain ⟨⟨pa1, n1, pa2, n2, ft, wh⟩, B⟩ := S
 have hXB := XS.okB hX hok
 rw [<- hle] at htk
 dsimp only at RE hok hsp htk hle hf h2 hXB |-
 rw [if_pos hf]
 subst hf
 have htk := htk rfl
 have hx32 := hX.x
 have hrd := hi.rd
 have sp1 := hsp.n1 rfl
 have sps := hsp.sum rfl
 have spp1 := hsp.pa1
 have spp2 := hsp.pa2
 dsimp only at sp1 sps spp1 spp2
 subst h2
 unfold niC at hwa
 unfold niV
 rw [show spV ⟨pa1, n1, pa2, 0, 0, wh⟩ 1 = .tuple #[.agg #[.int .i64 pa1, .int .i64 n1], .agg #[.int .i64 pa2, .int .i64 0], .agg #[.int .i64 (-1), .int .i64 0]] from rfl] at RE
 have R1 := hide1 (fun W h => x_read mb rb (X.withB B) hok pa1 n1 spp1 sp1 (by omega) htk.1 W h)
 have r1ok := readD_ok hok pa1 n1
 have r1lt := readD_lt hok pa1 n1 sp1
 have r1len := readD_len B pa1 n1
 have eB : (X.withB B).b = B := rfl
 rw [eB] at R1
 unfold loadD
 dsimp only
 rw [if_neg (by omega)]
 obtain ⟨T1, hT1⟩ := zn1 (readD B pa1 n1)
 simp only [<- hT1] at R1 r1ok r1lt  |-
 clear hT1
 obtain ⟨u, B1⟩ := T1
 have hBB : (X.withB B).withB B1 = X.withB B1 := rfl
 rw [hBB] at R1
 obtain ⟨s, hse⟩ := zn1 (8 * n1)
 have hs64 : s <= 32 := by omega
 have e8 : (8 : Int) * (n1 : Int) = (s : Int) := by omega
 have hp : u < 4294967296 := zq59
 obtain ⟨V, hV⟩ := zn1 (u)
 have hVl : V < 4294967296 := by rw [hV]; exact hp
 have SR := hide1 (fun W h => x_setRegister mb rb (X.withB B1) hx32 i.rd (ldvD i.op u) hrd W h)
 have EX : Hid (∀ W, CS 270 #[.int .i64 V, .int .i64 (nD i.op)] (.int .i64 (xextD V (xaccD i.op))) W) := zq73
 have W2 := hide1 (x_word (xextD V (xaccD i.op)))
 have eL : ldvD i.op V = wordN (xextD V (xaccD i.op)) := by unfold ldvD; rw [if_pos hs]
 rw [<- hV] at SR |-
 rw [<- hnv] at EX
 rw [eL] at SR |-
 obtain ⟨xv, hxv⟩ := zn1 (xextD V (xaccD i.op))
 simp only [<- hxv] at EX W2 SR |-
 obtain ⟨yv, hyv⟩ := zn1 (wordN xv)
 simp only [<- hyv] at W2 SR |-
 have eV : (u : Int) = (V : Int) := by rw [hV]
 obtain ⟨op, rd, rs1, rs2, im, ln⟩ := i
 dsimp only at *
 unfold excA
 clear hw hX hi htk hsp hle hok hXB hnv hnn hva hse hV hp eL r1ok r1lt r1len hxv hyv hx32 hrd sps
 rcases hs with hs | hs
 . have q11 : (op == 11) = true := by simp [hs]
   have q12 : (op == 12) = false := by simp [hs]
   exact zq276
 . have q11 : (op == 11) = false := by simp [hs]
   have q12 : (op == 12) = true := by simp [hs]
   exact zq276
theorem x_load_y2u (mb rb X) (hX : XOk X) (i : NI) (hi : NIOk i) (hf : (reachD X.b (xC X) (vaD X i) (nD i.op) 1).1.fault = 0) (h2 : 0 < (reachD X.b (xC X) (vaD X i) (nD i.op) 1).1.n2) (hs : ¬ (i.op = 11 \/ i.op = 12)) (w) (hw : Hid (XAt w mb rb X)) :
 CX 199 #[.pointer (some ⟨mb, 0, none⟩), niV i] (excA (ldX X i).1.1 (ldX X i).1.2) [mb, rb] mb rb ((ldX X i).2) w := by
 have hlt := hw.out.lt
 have hrlt := hw.out.rlt
 have hlt' : ¬ mb = w.heap.size := by omega
 have i0 := hi.im0
 have i1 := hi.im1
 have ha := hX.xr i.rs1
 have A1 := hide1 (fun W h => x_register mb rb X i.rs1 hi.rs1 W h)
 have hwa : Hid (XAt ((w.alloc (niC i)).alloc (.cells #[.int .i64 0, .int .i64 0] 118)) mb rb X) := zq22
 have hva : vaD X i < 4294967296 := zq51
 have hnn := nD_le i.op
 have RE := hide1 (fun W h => x_reach mb rb X hX (vaD X i) (nD i.op) 1 hva hnn.1 hnn.2 (.inr (.inl rfl)) W h)
 have AS : Hid (∀ W, CS 268 #[.int .i64 i.op] (.int .i64 (nD i.op)) W) := zq52
 have WD : Hid (∀ W, CS 135 #[.int .i64 ((X.x.getD i.rs1 0 : Int) + i.im)] (.int .i64 (vaD X i)) W) := zq53
 have wr : IntKind.i64.wrap ((X.x.getD i.rs1 0 : Int) + i.im) = (X.x.getD i.rs1 0 : Int) + i.im := zq9
 have hok := reach_ok hX.b (xC X) (vaD X i) (nD i.op) 1
 have hsp := reach_sp X.b (xC X) (vaD X i) (nD i.op) 1 hva hnn.1
 have htk := reach_takes X.b (xC X) (vaD X i) (nD i.op) 1
 have hle := reach_len X.b (xC X) (vaD X i) (nD i.op) 1
 unfold ldX ldF
 obtain ⟨S, hS⟩ := zn1 (reachD X.b (xC X) (vaD X i) (nD i.op) 1)
 simp only [<- hS] at RE hok hsp htk hle hf h2 |-
 obtain ⟨va, hvv⟩ := zn1 (vaD X i)
 obtain ⟨n, hnv⟩ := zn1 (nD i.op)
 obtain ⟨a, hae⟩ := zn1 (X.x.getD i.rs1 0)
 simp only [<- hvv] at RE WD
 simp only [<- hnv] at RE AS hsp hnn
 simp only [<- hae] at A1 WD wr ha
 clear hS hvv hae
 obtain ⟨⟨pa1, n1, pa2, n2, ft, wh⟩, B⟩ := S
 have hXB := XS.okB hX hok
 rw [<- hle] at htk
 dsimp only at RE hok hsp htk hle hf h2 hXB |-
 rw [if_pos hf]
 subst hf
 have htk := htk rfl
 have hx32 := hX.x
 have hrd := hi.rd
 have sp1 := hsp.n1 rfl
 have sps := hsp.sum rfl
 have spp1 := hsp.pa1
 have spp2 := hsp.pa2
 dsimp only at sp1 sps spp1 spp2
 unfold niC at hwa
 unfold niV
 rw [show spV ⟨pa1, n1, pa2, n2, 0, wh⟩ 1 = .tuple #[.agg #[.int .i64 pa1, .int .i64 n1], .agg #[.int .i64 pa2, .int .i64 n2], .agg #[.int .i64 (-1), .int .i64 0]] from rfl] at RE
 have R1 := hide1 (fun W h => x_read mb rb (X.withB B) hok pa1 n1 spp1 sp1 (by omega) htk.1 W h)
 have r1ok := readD_ok hok pa1 n1
 have r1lt := readD_lt hok pa1 n1 sp1
 have r1len := readD_len B pa1 n1
 have eB : (X.withB B).b = B := rfl
 rw [eB] at R1
 have R2 := hide1 (fun W h => x_read mb rb (X.withB (readD B pa1 n1).2) r1ok pa2 n2 spp2 (by omega) (by omega) zq514 W h)
 have r2lt := readD_lt r1ok pa2 n2 (by omega)
 rw [show (X.withB (readD B pa1 n1).2).b = (readD B pa1 n1).2 from rfl] at R2
 unfold loadD
 dsimp only
 rw [if_pos h2]
 obtain ⟨T1, hT1⟩ := zn1 (readD B pa1 n1)
 simp only [<- hT1] at R1 r1ok r1lt R2 r2lt |-
 clear hT1
 obtain ⟨u, B1⟩ := T1
 have hBB : (X.withB B).withB B1 = X.withB B1 := rfl
 rw [hBB] at R1
 obtain ⟨T2, hT2⟩ := zn1 (readD B1 pa2 n2)
 simp only [<- hT2] at R2 r2lt |-
 clear hT2
 obtain ⟨v, B2⟩ := T2
 have hBB2 : (X.withB B1).withB B2 = X.withB B2 := rfl
 rw [hBB2] at R2
 obtain ⟨s, hse⟩ := zn1 (8 * n1)
 have hs64 : s <= 32 := by omega
 have e8 : (8 : Int) * (n1 : Int) = (s : Int) := by omega
 have hp := mul_pow256 u v n1 n2 n r1lt r2lt sps hnn.2
 have epow : (2 : Int) ^ s = ((256 ^ n1 : Nat) : Int) := by
  have e1 : (2 : Nat) ^ (8 * n1) = 256 ^ n1 := by rw [Nat.pow_mul]
  rw [hse, <- e1]; simp
 obtain ⟨z, hz⟩ := zn1 (v * 256 ^ n1)
 have hzl : u + z < 4294967296 := by rw [hz]; exact hp
 have wv : wrap64 ((v : Int) * 2 ^ s) = (z : Int) := by
  rw [hz]
  rw [epow, <- Int.natCast_mul]
  exact wrap_small _ zq515 zq516
 obtain ⟨V, hV⟩ := zn1 ((u + v * 256 ^ n1))
 have hVl : V < 4294967296 := by rw [hV]; exact hp
 have SR := hide1 (fun W h => x_setRegister mb rb (X.withB B2) hx32 i.rd (ldvD i.op (u + v * 256 ^ n1)) hrd W h)
 have eL : ldvD i.op V = V := by unfold ldvD; rw [if_neg hs]
 rw [<- hV] at SR |-
 rw [eL] at SR |-
 have eV : (u : Int) + (z : Int) = (V : Int) := by rw [hV, hz]; simp
 have q11 : (i.op == 11) = false := by simp; omega
 have q12 : (i.op == 12) = false := by simp; omega
 obtain ⟨op, rd, rs1, rs2, im, ln⟩ := i
 dsimp only at *
 unfold excA
 clear hw hX hi htk hsp hle hok hXB hnv hnn hva hse hV hp eL r1ok r1lt r1len epow r2lt h2 hz hs hx32 hrd sps
 go_enter func199, ntmps199
 go_upto_region 1 with fail
 go_quiet ((first | (go_at_call 39; first | exact Calls.quiet_of_same (A1.out _ hwa) | exact Calls.quiet_of_same (A1.out _ (hide1 (hwa.out.drewN _))) | exact Calls.quiet_of_same (A1.out _ (hide1 hwa.out.drew))) | (go_at_call 135; exact Calls.quiet_of_same (WD.out _))))
 go_wp2_with (go_at_call 268; refine (AS.out _).mono ?_; rintro o w2 ⟨rfl, rfl⟩)
 refine (RE.out _ (hide1 (hwa.out.drewN _))).mono ?_
 rintro o w1 ⟨rfl, hx1, hk1⟩
 obtain ⟨ic0w1, ic1w1, ic2w1, ic3w1, ic4w1, ic5w1, ifw1, izw1, izw11, inw11, izw12, inw12, izw13, inw13, izw14, inw14⟩ : Zc6 w1 w.heap.size op rd rs1 rs2 im ln := zq157
 obtain ⟨rc0w1, rc1w1, rfw1, rzw1, rzw11, rnw11, rzw12, rnw12, rzw13, rnw13, rzw14, rnw14⟩ : Zc2 w1 (w.heap.size + 1) 0 0 := zq158
 have hx1a := hide1 ((((hx1.alloc (.cells #[.int .i64 pa1, .int .i64 n1] 231)).alloc (.cells #[.int .i64 pa2, .int .i64 n2] 231)).alloc (.cells #[.int .i64 (-1), .int .i64 0] 118)).alloc (.cells #[.int .i64 (-1), .int .i64 0] 118))
 go_wp2_with (first | (go_at_call 82; refine (x_none _ _ _).mono ?_; rintro o wn ⟨rfl, rfl⟩))
 refine (R1.out _ hx1a).mono ?_
 rintro o w2 ⟨rfl, hx2, hk2⟩
 obtain ⟨ic0w2, ic1w2, ic2w2, ic3w2, ic4w2, ic5w2, ifw2, izw2, izw21, inw21, izw22, inw22, izw23, inw23, izw24, inw24⟩ : Zc6 w2 w.heap.size op rd rs1 rs2 im ln := zq159
 obtain ⟨rc0w2, rc1w2, rfw2, rzw2, rzw21, rnw21, rzw22, rnw22, rzw23, rnw23, rzw24, rnw24⟩ : Zc2 w2 (w.heap.size + 1) 0 0 := zq160
 obtain ⟨fc0w2, fc1w2, ffw2, fzw2, fzw21, fnw21, fzw22, fnw22, fzw23, fnw23, fzw24, fnw24⟩ : Zc2 w2 w1.heap.size pa1 n1 := zq161
 obtain ⟨sc0w2, sc1w2, sfw2, szw2, szw21, snw21, szw22, snw22, szw23, snw23, szw24, snw24⟩ : Zc2 w2 (w1.heap.size + 1) pa2 n2 := zq162
 go_wp2_with fail
 refine (R2.out _ (hide1 hx2)).mono ?_
 rintro o w3 ⟨rfl, hx3, hk3⟩
 exact zq275
theorem x_load_y2s (mb rb X) (hX : XOk X) (i : NI) (hi : NIOk i) (hf : (reachD X.b (xC X) (vaD X i) (nD i.op) 1).1.fault = 0) (h2 : 0 < (reachD X.b (xC X) (vaD X i) (nD i.op) 1).1.n2) (hs : i.op = 11 \/ i.op = 12) (w) (hw : Hid (XAt w mb rb X)) :
 CX 199 #[.pointer (some ⟨mb, 0, none⟩), niV i] (excA (ldX X i).1.1 (ldX X i).1.2) [mb, rb] mb rb ((ldX X i).2) w := by
 have hlt := hw.out.lt
 have hrlt := hw.out.rlt
 have hlt' : ¬ mb = w.heap.size := by omega
 have i0 := hi.im0
 have i1 := hi.im1
 have ha := hX.xr i.rs1
 have A1 := hide1 (fun W h => x_register mb rb X i.rs1 hi.rs1 W h)
 have hwa : Hid (XAt ((w.alloc (niC i)).alloc (.cells #[.int .i64 0, .int .i64 0] 118)) mb rb X) := zq22
 have hva : vaD X i < 4294967296 := zq51
 have hnn := nD_le i.op
 have RE := hide1 (fun W h => x_reach mb rb X hX (vaD X i) (nD i.op) 1 hva hnn.1 hnn.2 (.inr (.inl rfl)) W h)
 have AS : Hid (∀ W, CS 268 #[.int .i64 i.op] (.int .i64 (nD i.op)) W) := zq52
 have WD : Hid (∀ W, CS 135 #[.int .i64 ((X.x.getD i.rs1 0 : Int) + i.im)] (.int .i64 (vaD X i)) W) := zq53
 have wr : IntKind.i64.wrap ((X.x.getD i.rs1 0 : Int) + i.im) = (X.x.getD i.rs1 0 : Int) + i.im := zq9
 have hok := reach_ok hX.b (xC X) (vaD X i) (nD i.op) 1
 have hsp := reach_sp X.b (xC X) (vaD X i) (nD i.op) 1 hva hnn.1
 have htk := reach_takes X.b (xC X) (vaD X i) (nD i.op) 1
 have hle := reach_len X.b (xC X) (vaD X i) (nD i.op) 1
 unfold ldX ldF
 obtain ⟨S, hS⟩ := zn1 (reachD X.b (xC X) (vaD X i) (nD i.op) 1)
 simp only [<- hS] at RE hok hsp htk hle hf h2 |-
 obtain ⟨va, hvv⟩ := zn1 (vaD X i)
 obtain ⟨n, hnv⟩ := zn1 (nD i.op)
 obtain ⟨a, hae⟩ := zn1 (X.x.getD i.rs1 0)
 simp only [<- hvv] at RE WD
 simp only [<- hnv] at RE AS hsp hnn
 simp only [<- hae] at A1 WD wr ha
 clear hS hvv hae
 obtain ⟨⟨pa1, n1, pa2, n2, ft, wh⟩, B⟩ := S
 have hXB := XS.okB hX hok
 rw [<- hle] at htk
 dsimp only at RE hok hsp htk hle hf h2 hXB |-
 rw [if_pos hf]
 subst hf
 have htk := htk rfl
 have hx32 := hX.x
 have hrd := hi.rd
 have sp1 := hsp.n1 rfl
 have sps := hsp.sum rfl
 have spp1 := hsp.pa1
 have spp2 := hsp.pa2
 dsimp only at sp1 sps spp1 spp2
 unfold niC at hwa
 unfold niV
 rw [show spV ⟨pa1, n1, pa2, n2, 0, wh⟩ 1 = .tuple #[.agg #[.int .i64 pa1, .int .i64 n1], .agg #[.int .i64 pa2, .int .i64 n2], .agg #[.int .i64 (-1), .int .i64 0]] from rfl] at RE
 have R1 := hide1 (fun W h => x_read mb rb (X.withB B) hok pa1 n1 spp1 sp1 (by omega) htk.1 W h)
 have r1ok := readD_ok hok pa1 n1
 have r1lt := readD_lt hok pa1 n1 sp1
 have r1len := readD_len B pa1 n1
 have eB : (X.withB B).b = B := rfl
 rw [eB] at R1
 have R2 := hide1 (fun W h => x_read mb rb (X.withB (readD B pa1 n1).2) r1ok pa2 n2 spp2 (by omega) (by omega) zq514 W h)
 have r2lt := readD_lt r1ok pa2 n2 (by omega)
 rw [show (X.withB (readD B pa1 n1).2).b = (readD B pa1 n1).2 from rfl] at R2
 unfold loadD
 dsimp only
 rw [if_pos h2]
 obtain ⟨T1, hT1⟩ := zn1 (readD B pa1 n1)
 simp only [<- hT1] at R1 r1ok r1lt R2 r2lt |-
 clear hT1
 obtain ⟨u, B1⟩ := T1
 have hBB : (X.withB B).withB B1 = X.withB B1 := rfl
 rw [hBB] at R1
 obtain ⟨T2, hT2⟩ := zn1 (readD B1 pa2 n2)
 simp only [<- hT2] at R2 r2lt |-
 clear hT2
 obtain ⟨v, B2⟩ := T2
 have hBB2 : (X.withB B1).withB B2 = X.withB B2 := rfl
 rw [hBB2] at R2
 obtain ⟨s, hse⟩ := zn1 (8 * n1)
 have hs64 : s <= 32 := by omega
 have e8 : (8 : Int) * (n1 : Int) = (s : Int) := by omega
 have hp := mul_pow256 u v n1 n2 n r1lt r2lt sps hnn.2
 have epow : (2 : Int) ^ s = ((256 ^ n1 : Nat) : Int) := by
  have e1 : (2 : Nat) ^ (8 * n1) = 256 ^ n1 := by rw [Nat.pow_mul]
  rw [hse, <- e1]; simp
 obtain ⟨z, hz⟩ := zn1 (v * 256 ^ n1)
 have hzl : u + z < 4294967296 := by rw [hz]; exact hp
 have wv : wrap64 ((v : Int) * 2 ^ s) = (z : Int) := by
  rw [hz]
  rw [epow, <- Int.natCast_mul]
  exact wrap_small _ zq515 zq516
 obtain ⟨V, hV⟩ := zn1 ((u + v * 256 ^ n1))
 have hVl : V < 4294967296 := by rw [hV]; exact hp
 have SR := hide1 (fun W h => x_setRegister mb rb (X.withB B2) hx32 i.rd (ldvD i.op (u + v * 256 ^ n1)) hrd W h)
 have EX : Hid (∀ W, CS 270 #[.int .i64 V, .int .i64 (nD i.op)] (.int .i64 (xextD V (xaccD i.op))) W) := zq73
 have W2 := hide1 (x_word (xextD V (xaccD i.op)))
 have eL : ldvD i.op V = wordN (xextD V (xaccD i.op)) := by unfold ldvD; rw [if_pos hs]
 rw [<- hV] at SR |-
 rw [<- hnv] at EX
 rw [eL] at SR |-
 obtain ⟨xv, hxv⟩ := zn1 (xextD V (xaccD i.op))
 simp only [<- hxv] at EX W2 SR |-
 obtain ⟨yv, hyv⟩ := zn1 (wordN xv)
 simp only [<- hyv] at W2 SR |-
 have eV : (u : Int) + (z : Int) = (V : Int) := by rw [hV, hz]; simp
 obtain ⟨op, rd, rs1, rs2, im, ln⟩ := i
 dsimp only at *
 unfold excA
 clear hw hX hi htk hsp hle hok hXB hnv hnn hva hse hV hp eL r1ok r1lt r1len epow r2lt h2 hz hxv hyv hx32 hrd sps
 rcases hs with hs | hs
 . have q11 : (op == 11) = true := by simp [hs]
   have q12 : (op == 12) = false := by simp [hs]
   exact zq277
 . have q11 : (op == 11) = false := by simp [hs]
   have q12 : (op == 12) = true := by simp [hs]
   exact zq277
theorem x_load (mb rb X) (hX : XOk X) (i : NI) (hi : NIOk i) (w) (hw : Hid (XAt w mb rb X)) :
 CX 199 #[.pointer (some ⟨mb, 0, none⟩), niV i] (excA (ldX X i).1.1 (ldX X i).1.2) [mb, rb] mb rb ((ldX X i).2) w := by
 by_cases hf : (reachD X.b (xC X) (vaD X i) (nD i.op) 1).1.fault = 0
 . by_cases h2 : (reachD X.b (xC X) (vaD X i) (nD i.op) 1).1.n2 = 0
   . by_cases h11 : i.op = 11 \/ i.op = 12
     . exact x_load_y1s mb rb X hX i hi hf h2 h11 w hw
     exact x_load_y1u mb rb X hX i hi hf h2 h11 w hw
   . by_cases h11 : i.op = 11 \/ i.op = 12
     . exact x_load_y2s mb rb X hX i hi hf (Nat.pos_of_ne_zero h2) h11 w hw
     exact x_load_y2u mb rb X hX i hi hf (Nat.pos_of_ne_zero h2) h11 w hw
 . exact x_load_f mb rb X hX i hi hf w hw
def stF (X : XS) (i : NI) (S : Spn × BusS) : (Int × Nat) × XS :=
 if S.1.fault = 0 then ((-1, 0), X.withB (storeD S.2 S.1 (X.x.getD i.rs2 0))) else ((xfauD S.1.fault 2, S.1.wh), X.withB S.2)
def stX (X : XS) (i : NI) : (Int × Nat) × XS := stF X i (reachD X.b (xC X) (vaD X i) (nD i.op) 2)
theorem x_store_f (mb rb X) (hX : XOk X) (i : NI) (hi : NIOk i) (hf : (reachD X.b (xC X) (vaD X i) (nD i.op) 2).1.fault ≠ 0) (w) (hw : Hid (XAt w mb rb X)) :
 CX 200 #[.pointer (some ⟨mb, 0, none⟩), niV i] (excA (stX X i).1.1 (stX X i).1.2) [mb, rb] mb rb ((stX X i).2) w := by
 have hlt := hw.out.lt
 have hrlt := hw.out.rlt
 have hlt' : ¬ mb = w.heap.size := by omega
 have i0 := hi.im0
 have i1 := hi.im1
 have ha := hX.xr i.rs1
 have A1 := hide1 (fun W h => x_register mb rb X i.rs1 hi.rs1 W h)
 have hwa : Hid (XAt ((w.alloc (niC i)).alloc (.cells #[.int .i64 0, .int .i64 0] 118)) mb rb X) := zq22
 have hva : vaD X i < 4294967296 := zq51
 have hnn := nD_le i.op
 have RE := hide1 (fun W h => x_reach mb rb X hX (vaD X i) (nD i.op) 2 hva hnn.1 hnn.2 (.inr (.inr rfl)) W h)
 have AS : Hid (∀ W, CS 268 #[.int .i64 i.op] (.int .i64 (nD i.op)) W) := zq52
 have WD : Hid (∀ W, CS 135 #[.int .i64 ((X.x.getD i.rs1 0 : Int) + i.im)] (.int .i64 (vaD X i)) W) := zq53
 have wr : IntKind.i64.wrap ((X.x.getD i.rs1 0 : Int) + i.im) = (X.x.getD i.rs1 0 : Int) + i.im := zq9
 have hok := reach_ok hX.b (xC X) (vaD X i) (nD i.op) 2
 have hsp := reach_sp X.b (xC X) (vaD X i) (nD i.op) 2 hva hnn.1
 have htk := reach_takes X.b (xC X) (vaD X i) (nD i.op) 2
 have hle := reach_len X.b (xC X) (vaD X i) (nD i.op) 2
 unfold stX stF
 obtain ⟨S, hS⟩ := zn1 (reachD X.b (xC X) (vaD X i) (nD i.op) 2)
 simp only [<- hS] at RE hok hsp htk hle hf |-
 obtain ⟨va, hvv⟩ := zn1 (vaD X i)
 obtain ⟨n, hnv⟩ := zn1 (nD i.op)
 obtain ⟨a, hae⟩ := zn1 (X.x.getD i.rs1 0)
 simp only [<- hvv] at RE WD
 simp only [<- hnv] at RE AS hsp hnn
 simp only [<- hae] at A1 WD wr ha
 clear hS hvv hae
 obtain ⟨⟨pa1, n1, pa2, n2, ft, wh⟩, B⟩ := S
 have hXB := XS.okB hX hok
 rw [<- hle] at htk
 dsimp only at RE hok hsp htk hle hf hXB |-
 rw [if_neg hf]
 unfold niC at hwa
 unfold niV
 obtain ⟨op, rd, rs1, rs2, im, ln⟩ := i
 dsimp only at *
 rw [show spV ⟨pa1, n1, pa2, n2, ft, wh⟩ 2 = .tuple #[.agg #[.int .i64 0, .int .i64 0], .agg #[.int .i64 0, .int .i64 0], .agg #[.int .i64 (xfauD ft 2), .int .i64 wh]] by unfold spV; dsimp only; rw [if_neg hf]; rfl] at RE
 have hn := xfau_ne ft 2
 obtain ⟨c, hc⟩ := zn1 (xfauD ft 2)
 simp only [<- hc] at RE hn |-
 unfold excA
 clear hw hX hi hc hf htk hsp hle hok hXB hnv hnn hva
 go_enter func200, ntmps200
 go_upto_region 1 with fail
 go_quiet ((first | (go_at_call 39; first | exact Calls.quiet_of_same (A1.out _ hwa) | exact Calls.quiet_of_same (A1.out _ (hide1 (hwa.out.drewN _))) | exact Calls.quiet_of_same (A1.out _ (hide1 hwa.out.drew))) | (go_at_call 135; exact Calls.quiet_of_same (WD.out _))))
 go_wp2_with (go_at_call 268; refine (AS.out _).mono ?_; rintro o w2 ⟨rfl, rfl⟩)
 refine (RE.out _ (hide1 (hwa.out.drewN _))).mono ?_
 rintro o w1 ⟨rfl, hx1, hk1⟩
 obtain ⟨rc0w1, rc1w1, rfw1, rzw1, rzw11, rnw11, rzw12, rnw12, rzw13, rnw13, rzw14, rnw14⟩ : Zc2 w1 (w.heap.size + 1) 0 0 := zq158
 go_wp2_with (first | (go_at_call 82; refine (x_none _ _ _).mono ?_; rintro o wn ⟨rfl, rfl⟩))
 refine bodyPost_ret (v := .agg #[.int .i64 c, .int .i64 wh]) (by simp [results, results200, go_sem, rc0w1, rc1w1, rzw1, rzw11, rnw11, rzw12, rnw12, rzw13, rnw13, rzw14, rnw14, Nat.ne_of_lt, Nat.ne_of_gt]) rfl ⟨rfl, hx1.box (w.heap.size + 1) ?_ (by omega) (by omega), ?_⟩
 . exact zq273
 . exact zq274
theorem x_store_y1 (mb rb X) (hX : XOk X) (i : NI) (hi : NIOk i) (hf : (reachD X.b (xC X) (vaD X i) (nD i.op) 2).1.fault = 0) (h2 : (reachD X.b (xC X) (vaD X i) (nD i.op) 2).1.n2 = 0) (w) (hw : Hid (XAt w mb rb X)) :
 CX 200 #[.pointer (some ⟨mb, 0, none⟩), niV i] (excA (stX X i).1.1 (stX X i).1.2) [mb, rb] mb rb ((stX X i).2) w := by
 have hlt := hw.out.lt
 have hrlt := hw.out.rlt
 have hlt' : ¬ mb = w.heap.size := by omega
 have i0 := hi.im0
 have i1 := hi.im1
 have ha := hX.xr i.rs1
 have A1 := hide1 (fun W h => x_register mb rb X i.rs1 hi.rs1 W h)
 have hwa : Hid (XAt ((w.alloc (niC i)).alloc (.cells #[.int .i64 0, .int .i64 0] 118)) mb rb X) := zq22
 have hva : vaD X i < 4294967296 := zq51
 have hnn := nD_le i.op
 have RE := hide1 (fun W h => x_reach mb rb X hX (vaD X i) (nD i.op) 2 hva hnn.1 hnn.2 (.inr (.inr rfl)) W h)
 have AS : Hid (∀ W, CS 268 #[.int .i64 i.op] (.int .i64 (nD i.op)) W) := zq52
 have WD : Hid (∀ W, CS 135 #[.int .i64 ((X.x.getD i.rs1 0 : Int) + i.im)] (.int .i64 (vaD X i)) W) := zq53
 have wr : IntKind.i64.wrap ((X.x.getD i.rs1 0 : Int) + i.im) = (X.x.getD i.rs1 0 : Int) + i.im := zq9
 have hok := reach_ok hX.b (xC X) (vaD X i) (nD i.op) 2
 have hsp := reach_sp X.b (xC X) (vaD X i) (nD i.op) 2 hva hnn.1
 have htk := reach_takes X.b (xC X) (vaD X i) (nD i.op) 2
 have hle := reach_len X.b (xC X) (vaD X i) (nD i.op) 2
 unfold stX stF
 obtain ⟨S, hS⟩ := zn1 (reachD X.b (xC X) (vaD X i) (nD i.op) 2)
 simp only [<- hS] at RE hok hsp htk hle hf h2 |-
 obtain ⟨va, hvv⟩ := zn1 (vaD X i)
 obtain ⟨n, hnv⟩ := zn1 (nD i.op)
 obtain ⟨a, hae⟩ := zn1 (X.x.getD i.rs1 0)
 simp only [<- hvv] at RE WD
 simp only [<- hnv] at RE AS hsp hnn
 simp only [<- hae] at A1 WD wr ha
 clear hS hvv hae
 obtain ⟨⟨pa1, n1, pa2, n2, ft, wh⟩, B⟩ := S
 have hXB := XS.okB hX hok
 rw [<- hle] at htk
 dsimp only at RE hok hsp htk hle hf h2 hXB |-
 rw [if_pos hf]
 subst hf
 have htk := htk rfl
 have hb := hX.xr i.rs2
 have sp1 := hsp.n1 rfl
 have sps := hsp.sum rfl
 have spp1 := hsp.pa1
 have spp2 := hsp.pa2
 dsimp only at sp1 sps spp1 spp2
 subst h2
 unfold niC at hwa
 unfold niV
 rw [show spV ⟨pa1, n1, pa2, 0, 0, wh⟩ 2 = .tuple #[.agg #[.int .i64 pa1, .int .i64 n1], .agg #[.int .i64 pa2, .int .i64 0], .agg #[.int .i64 (-1), .int .i64 0]] from rfl] at RE
 have AR := hide1 (fun W h => x_register mb rb (X.withB B) i.rs2 hi.rs2 W h)
 have eX : (X.withB B).x = X.x := rfl
 rw [eX] at AR
 obtain ⟨v, hve⟩ := zn1 (X.x.getD i.rs2 0)
 simp only [<- hve] at AR hb |-
 have R1 := hide1 (fun W h => x_write mb rb (X.withB B) hok pa1 n1 v spp1 sp1 (by omega) hb htk.1 W h)
 have r1ok := writeD_ok hok pa1 n1 v hb
 have r1len := writeD_len B pa1 n1 v
 have eB : (X.withB B).b = B := rfl
 rw [eB] at R1
 unfold storeD
 dsimp only
 rw [if_neg (by omega)]
 obtain ⟨B1, hT1⟩ := zn1 (writeD B pa1 n1 v)
 simp only [<- hT1] at R1 r1ok  |-
 clear hT1
 have hBB : (X.withB B).withB B1 = X.withB B1 := rfl
 rw [hBB] at R1
 obtain ⟨s, hse⟩ := zn1 (8 * n1)
 have hs64 : s <= 32 := by omega
 have e8 : (8 : Int) * (n1 : Int) = (s : Int) := by omega
 have we8 : IntKind.i64.wrap (s : Int) = (s : Int) := zq9
 have epow : (2 : Int) ^ s = ((256 ^ n1 : Nat) : Int) := by
  have e1 : (2 : Nat) ^ (8 * n1) = 256 ^ n1 := by rw [Nat.pow_mul]
  rw [hse, <- e1]; simp
 obtain ⟨z, hz⟩ := zn1 (v / 256 ^ n1)
 have sh : (v : Int) / 2 ^ s = (z : Int) := by rw [epow, hz]; simp
 obtain ⟨op, rd, rs1, rs2, im, ln⟩ := i
 dsimp only at *
 unfold excA
 clear hw hX hi htk hsp hle hok hXB hnv hnn hva hse hz epow r1ok r1len hve sps hb
 go_enter func200, ntmps200
 go_upto_region 1 with fail
 go_quiet ((first | (go_at_call 39; first | exact Calls.quiet_of_same (A1.out _ hwa) | exact Calls.quiet_of_same (A1.out _ (hide1 (hwa.out.drewN _))) | exact Calls.quiet_of_same (A1.out _ (hide1 hwa.out.drew))) | (go_at_call 135; exact Calls.quiet_of_same (WD.out _))))
 go_wp2_with (go_at_call 268; refine (AS.out _).mono ?_; rintro o w2 ⟨rfl, rfl⟩)
 refine (RE.out _ (hide1 (hwa.out.drewN _))).mono ?_
 rintro o w1 ⟨rfl, hx1, hk1⟩
 obtain ⟨ic0w1, ic1w1, ic2w1, ic3w1, ic4w1, ic5w1, ifw1, izw1, izw11, inw11, izw12, inw12, izw13, inw13, izw14, inw14⟩ : Zc6 w1 w.heap.size op rd rs1 rs2 im ln := zq157
 obtain ⟨rc0w1, rc1w1, rfw1, rzw1, rzw11, rnw11, rzw12, rnw12, rzw13, rnw13, rzw14, rnw14⟩ : Zc2 w1 (w.heap.size + 1) 0 0 := zq158
 have hx1a := hide1 ((((hx1.alloc (.cells #[.int .i64 pa1, .int .i64 n1] 231)).alloc (.cells #[.int .i64 pa2, .int .i64 0] 231)).alloc (.cells #[.int .i64 (-1), .int .i64 0] 118)).alloc (.cells #[.int .i64 (-1), .int .i64 0] 118))
 go_wp2_with (first | (go_at_call 82; refine (x_none _ _ _).mono ?_; rintro o wn ⟨rfl, rfl⟩) | (go_at_call 39; refine (AR.out _ hx1a).mono ?_; rintro o w5 ⟨rfl, rfl⟩))
 refine (R1.out _ hx1a).mono ?_
 rintro o w2 ⟨rfl, hx2, hk2⟩
 obtain ⟨rc0w2, rc1w2, rfw2, rzw2, rzw21, rnw21, rzw22, rnw22, rzw23, rnw23, rzw24, rnw24⟩ : Zc2 w2 (w.heap.size + 1) 0 0 := zq160
 obtain ⟨fc0w2, fc1w2, ffw2, fzw2, fzw21, fnw21, fzw22, fnw22, fzw23, fnw23, fzw24, fnw24⟩ : Zc2 w2 w1.heap.size pa1 n1 := zq161
 obtain ⟨sc0w2, sc1w2, sfw2, szw2, szw21, snw21, szw22, snw22, szw23, snw23, szw24, snw24⟩ : Zc2 w2 (w1.heap.size + 1) pa2 0 := zq162
 go_upto_region 7 with fail
 go_region_with (go_at_call 271; refine (x_write_0 mb pa2 _ _).mono ?_; rintro o w3 ⟨rfl, hk3⟩)
 all_goals
  have hx3 := hx2.drew.kept hk3
  obtain ⟨rc0w3, rc1w3, rfw3, rzw3, rzw31, rnw31, rzw32, rnw32, rzw33, rnw33, rzw34, rnw34⟩ : Zc2 w3 (w.heap.size + 1) 0 0 := zq164
  go_wp2_with (first | (go_at_call 198; refine (x_fine _).mono ?_; rintro o wn ⟨rfl, rfl⟩))
  refine bodyPost_ret (v := .agg #[.int .i64 (-1), .int .i64 0]) zq517 rfl ⟨rfl, hx3.box (w.heap.size + 1) ?_ (by omega) (by omega), ?_⟩
  . exact zq273
  . exact zq278
theorem x_store_y2 (mb rb X) (hX : XOk X) (i : NI) (hi : NIOk i) (hf : (reachD X.b (xC X) (vaD X i) (nD i.op) 2).1.fault = 0) (h2 : 0 < (reachD X.b (xC X) (vaD X i) (nD i.op) 2).1.n2) (w) (hw : Hid (XAt w mb rb X)) :
 CX 200 #[.pointer (some ⟨mb, 0, none⟩), niV i] (excA (stX X i).1.1 (stX X i).1.2) [mb, rb] mb rb ((stX X i).2) w := by
 have hlt := hw.out.lt
 have hrlt := hw.out.rlt
 have hlt' : ¬ mb = w.heap.size := by omega
 have i0 := hi.im0
 have i1 := hi.im1
 have ha := hX.xr i.rs1
 have A1 := hide1 (fun W h => x_register mb rb X i.rs1 hi.rs1 W h)
 have hwa : Hid (XAt ((w.alloc (niC i)).alloc (.cells #[.int .i64 0, .int .i64 0] 118)) mb rb X) := zq22
 have hva : vaD X i < 4294967296 := zq51
 have hnn := nD_le i.op
 have RE := hide1 (fun W h => x_reach mb rb X hX (vaD X i) (nD i.op) 2 hva hnn.1 hnn.2 (.inr (.inr rfl)) W h)
 have AS : Hid (∀ W, CS 268 #[.int .i64 i.op] (.int .i64 (nD i.op)) W) := zq52
 have WD : Hid (∀ W, CS 135 #[.int .i64 ((X.x.getD i.rs1 0 : Int) + i.im)] (.int .i64 (vaD X i)) W) := zq53
 have wr : IntKind.i64.wrap ((X.x.getD i.rs1 0 : Int) + i.im) = (X.x.getD i.rs1 0 : Int) + i.im := zq9
 have hok := reach_ok hX.b (xC X) (vaD X i) (nD i.op) 2
 have hsp := reach_sp X.b (xC X) (vaD X i) (nD i.op) 2 hva hnn.1
 have htk := reach_takes X.b (xC X) (vaD X i) (nD i.op) 2
 have hle := reach_len X.b (xC X) (vaD X i) (nD i.op) 2
 unfold stX stF
 obtain ⟨S, hS⟩ := zn1 (reachD X.b (xC X) (vaD X i) (nD i.op) 2)
 simp only [<- hS] at RE hok hsp htk hle hf h2 |-
 obtain ⟨va, hvv⟩ := zn1 (vaD X i)
 obtain ⟨n, hnv⟩ := zn1 (nD i.op)
 obtain ⟨a, hae⟩ := zn1 (X.x.getD i.rs1 0)
 simp only [<- hvv] at RE WD
 simp only [<- hnv] at RE AS hsp hnn
 simp only [<- hae] at A1 WD wr ha
 clear hS hvv hae
 obtain ⟨⟨pa1, n1, pa2, n2, ft, wh⟩, B⟩ := S
 have hXB := XS.okB hX hok
 rw [<- hle] at htk
 dsimp only at RE hok hsp htk hle hf h2 hXB |-
 rw [if_pos hf]
 subst hf
 have htk := htk rfl
 have hb := hX.xr i.rs2
 have sp1 := hsp.n1 rfl
 have sps := hsp.sum rfl
 have spp1 := hsp.pa1
 have spp2 := hsp.pa2
 dsimp only at sp1 sps spp1 spp2
 unfold niC at hwa
 unfold niV
 rw [show spV ⟨pa1, n1, pa2, n2, 0, wh⟩ 2 = .tuple #[.agg #[.int .i64 pa1, .int .i64 n1], .agg #[.int .i64 pa2, .int .i64 n2], .agg #[.int .i64 (-1), .int .i64 0]] from rfl] at RE
 have AR := hide1 (fun W h => x_register mb rb (X.withB B) i.rs2 hi.rs2 W h)
 have eX : (X.withB B).x = X.x := rfl
 rw [eX] at AR
 obtain ⟨v, hve⟩ := zn1 (X.x.getD i.rs2 0)
 simp only [<- hve] at AR hb |-
 have R1 := hide1 (fun W h => x_write mb rb (X.withB B) hok pa1 n1 v spp1 sp1 (by omega) hb htk.1 W h)
 have r1ok := writeD_ok hok pa1 n1 v hb
 have r1len := writeD_len B pa1 n1 v
 have eB : (X.withB B).b = B := rfl
 rw [eB] at R1
 have hvl : v / 256 ^ n1 < 4294967296 := Nat.lt_of_le_of_lt (Nat.div_le_self _ _) hb
 have R2 := hide1 (fun W h => x_write mb rb (X.withB (writeD B pa1 n1 v)) r1ok pa2 n2 (v / 256 ^ n1) spp2 (by omega) (by omega) hvl (by rw [show (X.withB (writeD B pa1 n1 v)).b = writeD B pa1 n1 v from rfl, r1len]; exact htk.2 h2) W h)
 rw [show (X.withB (writeD B pa1 n1 v)).b = writeD B pa1 n1 v from rfl] at R2
 unfold storeD
 dsimp only
 rw [if_pos h2]
 obtain ⟨B1, hT1⟩ := zn1 (writeD B pa1 n1 v)
 simp only [<- hT1] at R1 r1ok R2 |-
 clear hT1
 have hBB : (X.withB B).withB B1 = X.withB B1 := rfl
 rw [hBB] at R1
 obtain ⟨s, hse⟩ := zn1 (8 * n1)
 have hs64 : s <= 32 := by omega
 have e8 : (8 : Int) * (n1 : Int) = (s : Int) := by omega
 have we8 : IntKind.i64.wrap (s : Int) = (s : Int) := zq9
 have epow : (2 : Int) ^ s = ((256 ^ n1 : Nat) : Int) := by
  have e1 : (2 : Nat) ^ (8 * n1) = 256 ^ n1 := by rw [Nat.pow_mul]
  rw [hse, <- e1]; simp
 obtain ⟨z, hz⟩ := zn1 (v / 256 ^ n1)
 have sh : (v : Int) / 2 ^ s = (z : Int) := by rw [epow, hz]; simp
 simp only [<- hz] at R2 hvl |-
 obtain ⟨B2, hB2⟩ := zn1 (writeD B1 pa2 n2 z)
 simp only [<- hB2] at R2 |-
 have hBB2 : (X.withB B1).withB B2 = X.withB B2 := rfl
 rw [hBB2] at R2
 obtain ⟨op, rd, rs1, rs2, im, ln⟩ := i
 dsimp only at *
 unfold excA
 clear hw hX hi htk hsp hle hok hXB hnv hnn hva hse hz epow r1ok r1len hve sps hb h2 hvl hB2
 go_enter func200, ntmps200
 go_upto_region 1 with fail
 go_quiet ((first | (go_at_call 39; first | exact Calls.quiet_of_same (A1.out _ hwa) | exact Calls.quiet_of_same (A1.out _ (hide1 (hwa.out.drewN _))) | exact Calls.quiet_of_same (A1.out _ (hide1 hwa.out.drew))) | (go_at_call 135; exact Calls.quiet_of_same (WD.out _))))
 go_wp2_with (go_at_call 268; refine (AS.out _).mono ?_; rintro o w2 ⟨rfl, rfl⟩)
 refine (RE.out _ (hide1 (hwa.out.drewN _))).mono ?_
 rintro o w1 ⟨rfl, hx1, hk1⟩
 obtain ⟨ic0w1, ic1w1, ic2w1, ic3w1, ic4w1, ic5w1, ifw1, izw1, izw11, inw11, izw12, inw12, izw13, inw13, izw14, inw14⟩ : Zc6 w1 w.heap.size op rd rs1 rs2 im ln := zq157
 obtain ⟨rc0w1, rc1w1, rfw1, rzw1, rzw11, rnw11, rzw12, rnw12, rzw13, rnw13, rzw14, rnw14⟩ : Zc2 w1 (w.heap.size + 1) 0 0 := zq158
 have hx1a := hide1 ((((hx1.alloc (.cells #[.int .i64 pa1, .int .i64 n1] 231)).alloc (.cells #[.int .i64 pa2, .int .i64 n2] 231)).alloc (.cells #[.int .i64 (-1), .int .i64 0] 118)).alloc (.cells #[.int .i64 (-1), .int .i64 0] 118))
 go_wp2_with (first | (go_at_call 82; refine (x_none _ _ _).mono ?_; rintro o wn ⟨rfl, rfl⟩) | (go_at_call 39; refine (AR.out _ hx1a).mono ?_; rintro o w5 ⟨rfl, rfl⟩))
 refine (R1.out _ hx1a).mono ?_
 rintro o w2 ⟨rfl, hx2, hk2⟩
 obtain ⟨rc0w2, rc1w2, rfw2, rzw2, rzw21, rnw21, rzw22, rnw22, rzw23, rnw23, rzw24, rnw24⟩ : Zc2 w2 (w.heap.size + 1) 0 0 := zq160
 obtain ⟨fc0w2, fc1w2, ffw2, fzw2, fzw21, fnw21, fzw22, fnw22, fzw23, fnw23, fzw24, fnw24⟩ : Zc2 w2 w1.heap.size pa1 n1 := zq161
 obtain ⟨sc0w2, sc1w2, sfw2, szw2, szw21, snw21, szw22, snw22, szw23, snw23, szw24, snw24⟩ : Zc2 w2 (w1.heap.size + 1) pa2 n2 := zq162
 go_upto_region 7 with fail
 go_region_with (go_at_call 271; refine (R2.out _ (hide1 hx2.drew)).mono ?_; rintro o w3 ⟨rfl, hx3, hk3⟩)
 all_goals
  obtain ⟨rc0w3, rc1w3, rfw3, rzw3, rzw31, rnw31, rzw32, rnw32, rzw33, rnw33, rzw34, rnw34⟩ : Zc2 w3 (w.heap.size + 1) 0 0 := zq164
  go_wp2_with (first | (go_at_call 198; refine (x_fine _).mono ?_; rintro o wn ⟨rfl, rfl⟩))
  refine bodyPost_ret (v := .agg #[.int .i64 (-1), .int .i64 0]) zq517 rfl ⟨rfl, hx3.box (w.heap.size + 1) ?_ (by omega) (by omega), ?_⟩
  . exact zq273
  . exact zq278
theorem x_store (mb rb X) (hX : XOk X) (i : NI) (hi : NIOk i) (w) (hw : Hid (XAt w mb rb X)) :
 CX 200 #[.pointer (some ⟨mb, 0, none⟩), niV i] (excA (stX X i).1.1 (stX X i).1.2) [mb, rb] mb rb ((stX X i).2) w := by
 by_cases hf : (reachD X.b (xC X) (vaD X i) (nD i.op) 2).1.fault = 0
 . by_cases h2 : (reachD X.b (xC X) (vaD X i) (nD i.op) 2).1.n2 = 0
   . exact x_store_y1 mb rb X hX i hi hf h2 w hw
   . exact x_store_y2 mb rb X hX i hi hf (Nat.pos_of_ne_zero h2) w hw
 . exact x_store_f mb rb X hX i hi hf w hw
def lrX (X : XS) (i : NI) (pa p : Nat) : XS := { setXR X i.rd (rdRam X.b p 4) with resd := true, resv := pa }
def scB (X : XS) (pa : Nat) : Bool := !X.resd || !decide (X.resv = pa)
def scX (X : XS) (i : NI) (pa p : Nat) : XS := unresX (setXR (bif scB X pa then X else setRam X (stN X.b.ram p 4 (X.x.getD i.rs2 0))) i.rd (scB X pa).toNat)
def amoX (X : XS) (i : NI) (p : Nat) : XS := setXR (setRam X (stN X.b.ram p 4 (alu i.op (rdRam X.b p 4) (X.x.getD i.rs2 0)))) i.rd (rdRam X.b p 4)
theorem rd4_lt (B : BusS) (p : Nat) : rdRam B p 4 < 4294967296 := rdRam_lt B p 4
theorem alu_lt (op : Int) (a b : Nat) (ha : a < 4294967296) (hb : b < 4294967296) (h0 : 52 <= op) (h1 : op <= 60) : alu op a b < 4294967296 := by
 have h : op = 52 \/ op = 53 \/ op = 54 \/ op = 55 \/ op = 56 \/ op = 57 \/ op = 58 \/ op = 59 \/ op = 60 := by omega
 rcases h with rfl | rfl | rfl | rfl | rfl | rfl | rfl | rfl | rfl
 . exact hb
 . show (a + b) % 4294967296 < _; omega
 . exact Nat.xor_lt_two_pow (n := 32) ha hb
 . exact Nat.lt_of_le_of_lt Nat.and_le_left ha
 . exact nat_or_lt a b 32 ha hb
 . show (if sgn a < sgn b then a else b) < _; split <;> assumption
 . show (if sgn b < sgn a then a else b) < _; split <;> assumption
 . show (if a < b then a else b) < _; split <;> assumption
 . show (if b < a then a else b) < _; split <;> assumption
theorem x_loadReserved (mb rb X) (hX : XOk X) (i : NI) (hi : NIOk i) (pa p : Nat) (hp : pa = 2147483648 + p) (hl : p + 4 <= X.b.ram.length) (w) (hw : Hid (XAt w mb rb X)) :
 CX 275 #[.pointer (some ⟨mb, 0, none⟩), niV i, .int .i64 pa] (.tuple #[]) [mb, rb] mb rb (lrX X i pa p) w := by
 have hlt := hw.out.lt
 have hrlt := hw.out.rlt
 have hlt' : ¬ mb = w.heap.size := by omega
 have hram := hX.b.ram
 have hwa : Hid (XAt (w.alloc (niC i)) mb rb X) := zq10
 unfold niC at hwa
 have RN : Hid (∀ W, Hid (XAt W mb rb X) -> CS 262 #[.pointer (some ⟨mb, 0, none⟩), .int .i64 pa, .int .i64 4] (.int .i64 (rdRam X.b p 4)) W) := zq74
 have SR := hide1 (fun W h => x_setRegister mb rb X hX.x i.rd (rdRam X.b p 4) hi.rd W h)
 have RV := hide1 (fun W h => x_reserve mb rb (setXR X i.rd (rdRam X.b p 4)) pa W h)
 unfold lrX
 obtain ⟨v, hv⟩ := zn1 (rdRam X.b p 4)
 simp only [<- hv] at RN SR RV |-
 unfold niV
 obtain ⟨op, rd, rs1, rs2, im, ln⟩ := i
 dsimp only at *
 clear hw hX hi hv hp hl hram
 go_enter func275, ntmps275
 go_wp2_with fail
 refine (RN.out _ hwa).mono ?_
 rintro o w1 ⟨rfl, rfl⟩
 go_wp2_with fail
 refine (SR.out _ hwa).mono ?_
 rintro o w1 ⟨rfl, hx1, hk1⟩
 go_wp2_with fail
 refine (RV.out _ (hide1 hx1)).mono ?_
 exact zq279
theorem x_modify (mb rb X) (hX : XOk X) (i : NI) (hi : NIOk i) (pa p : Nat) (hp : pa = 2147483648 + p) (hl : p + 4 <= X.b.ram.length) (hop : 52 <= i.op /\ i.op <= 60) (w) (hw : Hid (XAt w mb rb X)) :
 CX 277 #[.pointer (some ⟨mb, 0, none⟩), niV i, .int .i64 pa] (.tuple #[]) [mb, rb] mb rb (amoX X i p) w := by
 have hlt := hw.out.lt
 have hrlt := hw.out.rlt
 have hlt' : ¬ mb = w.heap.size := by omega
 have hram := hX.b.ram
 have hwa : Hid (XAt (w.alloc (niC i)) mb rb X) := zq10
 unfold niC at hwa
 have hb := hX.xr i.rs2
 have hv4 := rd4_lt X.b p
 have hal := alu_lt i.op _ _ hv4 hb hop.1 hop.2
 have RN : Hid (∀ W, Hid (XAt W mb rb X) -> CS 262 #[.pointer (some ⟨mb, 0, none⟩), .int .i64 pa, .int .i64 4] (.int .i64 (rdRam X.b p 4)) W) := zq74
 have A2 := hide1 (fun W h => x_register mb rb X i.rs2 hi.rs2 W h)
 have MD := hide1 (x_modified i.op hop.1 hop.2 _ _ hv4 hb)
 have SN : Hid (∀ W, Hid (XAt W mb rb X) -> CX 346 #[.pointer (some ⟨mb, 0, none⟩), .int .i64 pa, .int .i64 4, .int .i64 (alu i.op (rdRam X.b p 4) (X.x.getD i.rs2 0))] (.tuple #[]) [rb] mb rb (setRam X (stN X.b.ram p 4 (alu i.op (rdRam X.b p 4) (X.x.getD i.rs2 0)))) W) := hide1 (fun W h => x_setRamNumber_yes mb rb X hram pa p 4 (by omega) (by omega) (by omega) hl _ hal W h)
 have SR := hide1 (fun W h => x_setRegister mb rb (setRam X (stN X.b.ram p 4 (alu i.op (rdRam X.b p 4) (X.x.getD i.rs2 0)))) hX.x i.rd (rdRam X.b p 4) hi.rd W h)
 unfold amoX
 obtain ⟨v, hv⟩ := zn1 (rdRam X.b p 4)
 obtain ⟨b, hbe⟩ := zn1 (X.x.getD i.rs2 0)
 simp only [<- hv, <- hbe] at RN A2 MD SN SR |-
 obtain ⟨r, hr⟩ := zn1 (alu i.op v b)
 simp only [<- hr] at MD SN SR |-
 obtain ⟨Y, hY⟩ := zn1 (setRam X (stN X.b.ram p 4 r))
 simp only [<- hY] at SN SR |-
 unfold niV
 obtain ⟨op, rd, rs1, rs2, im, ln⟩ := i
 dsimp only at *
 clear hw hX hi hv hp hl hram hr hY hbe hb hv4 hal hop
 go_enter func277, ntmps277
 go_wp2_with (first | (go_at_call 262; refine (RN.out _ hwa).mono ?_; rintro o w1 ⟨rfl, rfl⟩) | (go_at_call 39; refine (A2.out _ hwa).mono ?_; rintro o w1 ⟨rfl, rfl⟩) | (go_at_call 349; refine (MD.out _).mono ?_; rintro o w1 ⟨rfl, rfl⟩))
 refine (SN.out _ hwa).mono ?_
 rintro o w1 ⟨rfl, hx1, hk1⟩
 obtain ⟨ic0w1, ic1w1, ic2w1, ic3w1, ic4w1, ic5w1, ifw1, izw1, izw11, inw11, izw12, inw12, izw13, inw13, izw14, inw14⟩ : Zc6 w1 w.heap.size op rd rs1 rs2 im ln := zq166
 go_wp2_with fail
 refine (SR.out _ (hide1 hx1)).mono ?_
 exact zq279
theorem x_sc_n (mb rb X) (hX : XOk X) (i : NI) (hi : NIOk i) (pa p : Nat) (hp : pa = 2147483648 + p) (hl : p + 4 <= X.b.ram.length) (hsc : scB X pa = true) (w) (hw : Hid (XAt w mb rb X)) :
 CX 276 #[.pointer (some ⟨mb, 0, none⟩), niV i, .int .i64 pa] (.tuple #[]) [mb, rb] mb rb (scX X i pa p) w := by
 have hlt := hw.out.lt
 have hrlt := hw.out.rlt
 have hlt' : ¬ mb = w.heap.size := by omega
 have hram := hX.b.ram
 have hwa : Hid (XAt (w.alloc (niC i)) mb rb X) := zq10
 unfold niC at hwa
 have hb := hX.xr i.rs2
 have c36 := hw.out.c36
 have c37 := hw.out.c37
 have A2 := hide1 (fun W h => x_register mb rb X i.rs2 hi.rs2 W h)
 have SN : Hid (∀ W, Hid (XAt W mb rb X) -> CX 346 #[.pointer (some ⟨mb, 0, none⟩), .int .i64 pa, .int .i64 4, .int .i64 (X.x.getD i.rs2 0)] (.tuple #[]) [rb] mb rb (setRam X (stN X.b.ram p 4 (X.x.getD i.rs2 0))) W) := zq77
 unfold scX
 rw [hsc]
 obtain ⟨Y, hY⟩ := zn1 ((bif true then X else setRam X (stN X.b.ram p 4 (X.x.getD i.rs2 0))))
 have hYx : Y.x.length = 32 := by rw [hY]; exact hX.x
 rw [<- hY]
 rw [show (setRam X (stN X.b.ram p 4 (X.x.getD i.rs2 0))) = setRam X (stN X.b.ram p 4 (X.x.getD i.rs2 0)) from rfl] at SN
 have SR : Hid (∀ W, Hid (XAt W mb rb Y) -> CX 197 #[.pointer (some ⟨mb, 0, none⟩), .int .i64 i.rd, .int .i64 ((true : Bool).toNat : Nat)] (.tuple #[]) [mb] mb rb (setXR Y i.rd (true : Bool).toNat) W) := hide1 (fun W h => x_setRegister mb rb Y hYx i.rd (true : Bool).toNat hi.rd W h)
 have UR := hide1 (fun W h => x_unreserve mb rb (setXR Y i.rd (true : Bool).toNat) W h)
 have OI : Hid (∀ W, CS 255 #[.bool true] (.int .i64 ((true : Bool).toNat : Nat)) W) := hide1 (fun W => x_oneIf true W)
 obtain ⟨b, hbe⟩ := zn1 (X.x.getD i.rs2 0)
 simp only [<- hbe] at A2 SN
 obtain ⟨fv, hfv⟩ := zn1 ((true : Bool).toNat)
 simp only [<- hfv] at SR UR OI |-
 unfold niV
 obtain ⟨op, rd, rs1, rs2, im, ln⟩ := i
 dsimp only at *
 have qs : (!X.resd || ((X.resv : Int) != pa)) = true := zq78
 obtain ⟨rs, hrs⟩ := zn1 (X.resd)
 obtain ⟨rv, hrv⟩ := zn1 (X.resv)
 rw [<- hrs] at c36 qs
 rw [<- hrv] at c37 qs
 have hYe : Y = X := hY
 subst hYe
 clear hY
 clear hw hX hi hp hl hram hbe hb hsc hYx hfv hrs hrv
 cases rs
 case false =>
  exact zq280
 case true =>
  have q : ((rv : Int) != pa) = true := by simpa using qs
  exact zq280
theorem x_sc_y (mb rb X) (hX : XOk X) (i : NI) (hi : NIOk i) (pa p : Nat) (hp : pa = 2147483648 + p) (hl : p + 4 <= X.b.ram.length) (hsc : scB X pa = false) (w) (hw : Hid (XAt w mb rb X)) :
 CX 276 #[.pointer (some ⟨mb, 0, none⟩), niV i, .int .i64 pa] (.tuple #[]) [mb, rb] mb rb (scX X i pa p) w := by
 have hlt := hw.out.lt
 have hrlt := hw.out.rlt
 have hlt' : ¬ mb = w.heap.size := by omega
 have hram := hX.b.ram
 have hwa : Hid (XAt (w.alloc (niC i)) mb rb X) := zq10
 unfold niC at hwa
 have hb := hX.xr i.rs2
 have c36 := hw.out.c36
 have c37 := hw.out.c37
 have A2 := hide1 (fun W h => x_register mb rb X i.rs2 hi.rs2 W h)
 have SN : Hid (∀ W, Hid (XAt W mb rb X) -> CX 346 #[.pointer (some ⟨mb, 0, none⟩), .int .i64 pa, .int .i64 4, .int .i64 (X.x.getD i.rs2 0)] (.tuple #[]) [rb] mb rb (setRam X (stN X.b.ram p 4 (X.x.getD i.rs2 0))) W) := zq77
 unfold scX
 rw [hsc]
 obtain ⟨Y, hY⟩ := zn1 ((bif false then X else setRam X (stN X.b.ram p 4 (X.x.getD i.rs2 0))))
 have hYx : Y.x.length = 32 := by rw [hY]; exact hX.x
 rw [<- hY]
 rw [show (setRam X (stN X.b.ram p 4 (X.x.getD i.rs2 0))) = (bif false then X else setRam X (stN X.b.ram p 4 (X.x.getD i.rs2 0))) from rfl] at SN
 have SR : Hid (∀ W, Hid (XAt W mb rb Y) -> CX 197 #[.pointer (some ⟨mb, 0, none⟩), .int .i64 i.rd, .int .i64 ((false : Bool).toNat : Nat)] (.tuple #[]) [mb] mb rb (setXR Y i.rd (false : Bool).toNat) W) := hide1 (fun W h => x_setRegister mb rb Y hYx i.rd (false : Bool).toNat hi.rd W h)
 have UR := hide1 (fun W h => x_unreserve mb rb (setXR Y i.rd (false : Bool).toNat) W h)
 have OI : Hid (∀ W, CS 255 #[.bool false] (.int .i64 ((false : Bool).toNat : Nat)) W) := hide1 (fun W => x_oneIf false W)
 obtain ⟨b, hbe⟩ := zn1 (X.x.getD i.rs2 0)
 simp only [<- hbe] at A2 SN
 obtain ⟨fv, hfv⟩ := zn1 ((false : Bool).toNat)
 simp only [<- hfv] at SR UR OI |-
 unfold niV
 obtain ⟨op, rd, rs1, rs2, im, ln⟩ := i
 dsimp only at *
 have qs : (!X.resd || ((X.resv : Int) != pa)) = false := zq78
 obtain ⟨rs, hrs⟩ := zn1 (X.resd)
 obtain ⟨rv, hrv⟩ := zn1 (X.resv)
 rw [<- hrs] at c36 qs
 rw [<- hrv] at c37 qs
 have hYe : (bif false then X else setRam X (stN X.b.ram p 4 b)) = Y := by rw [hY, hbe]
 simp only [hYe] at SN
 clear hY hYe
 clear hw hX hi hp hl hram hbe hb hsc hYx hfv hrs hrv
 cases rs
 case false =>
  simp at qs
 case true =>
  have q : ((rv : Int) != pa) = false := by simpa using qs
  clear qs
  go_enter func276, ntmps276
  go_wp2_with (go_at_call 39; refine (A2.out _ hwa).mono ?_; rintro o w1 ⟨rfl, rfl⟩)
  refine (SN.out _ hwa).mono ?_
  rintro o w1 ⟨rfl, hx1, hk1⟩
  obtain ⟨ic0w1, ic1w1, ic2w1, ic3w1, ic4w1, ic5w1, ifw1, izw1, izw11, inw11, izw12, inw12, izw13, inw13, izw14, inw14⟩ : Zc6 w1 w.heap.size op rd rs1 rs2 im ln := zq166
  go_upto_region 5 with fail
  go_region_with (first | (go_at_call 255; refine (OI.out _).mono ?_; rintro o w2 ⟨rfl, rfl⟩) | (go_at_call 197; refine (SR.out _ (hide1 hx1.drew)).mono ?_; rintro o w2 ⟨rfl, hx2, hk2⟩))
  all_goals
   go_wp2_with fail
   refine (UR.out _ (hide1 hx2)).mono ?_
   rintro o w3 ⟨rfl, hx3, hk3⟩
   go_wp2_with fail
   go_end0
   refine ⟨rfl, hx3, ?_⟩
   repeat (first | (with_reducible exact Kept.refl _ _) | (with_reducible refine Kept.setM ?_ _ _) | (with_reducible refine Kept.setCell ?_ (Or.inr zq491) _) | (with_reducible refine Kept.drew ?_) | (with_reducible refine Kept.drewN ?_ _) | (with_reducible refine Kept.alloc ?_ _) | (with_reducible refine Kept.trans ?_ (hk3.mono (by simp))) | (with_reducible refine Kept.trans ?_ (hk2.mono (by simp))) | (with_reducible refine Kept.trans ?_ (hk1.mono (by simp))))
def kD (op : Int) : Nat := if op = 50 then 1 else 2
def atG (X : XS) (i : NI) (pa : Nat) : XS := if i.op = 50 then lrX X i pa (pa - 2147483648) else if i.op = 51 then scX X i pa (pa - 2147483648) else amoX X i (pa - 2147483648)
def atF (X : XS) (i : NI) (t : (Nat × Nat) × BusS) : (Int × Nat) × XS :=
 if t.1.2 = 0 then ((-1, 0), atG (X.withB t.2) i t.1.1) else ((xfauD t.1.2 (kD i.op), X.x.getD i.rs1 0), X.withB t.2)
def atX (X : XS) (i : NI) : (Int × Nat) × XS :=
 if X.x.getD i.rs1 0 % 4 = 0 then atF X i (wordAtD X.b (xC X) (X.x.getD i.rs1 0) (kD i.op)) else ((xalgD (kD i.op), X.x.getD i.rs1 0), X)
theorem kD_apu (op : Int) : ((kD op : Nat) : Int) = xapuD op := by unfold kD xapuD; split <;> rfl
theorem kD_ok (op : Int) : kD op = 0 \/ kD op = 1 \/ kD op = 2 := by unfold kD; split <;> omega
theorem x_atomic_a (mb rb X) (hX : XOk X) (i : NI) (hi : NIOk i) (h4 : ¬ X.x.getD i.rs1 0 % 4 = 0) (w) (hw : Hid (XAt w mb rb X)) :
 CX 201 #[.pointer (some ⟨mb, 0, none⟩), niV i] (excA (atX X i).1.1 (atX X i).1.2) [mb, rb] mb rb ((atX X i).2) w := by
 have hlt := hw.out.lt
 have hrlt := hw.out.rlt
 have hlt' : ¬ mb = w.heap.size := by omega
 have ha := hX.xr i.rs1
 have A1 := hide1 (fun W h => x_register mb rb X i.rs1 hi.rs1 W h)
 have hwa : Hid (XAt ((w.alloc (niC i)).alloc (.cells #[.int .i64 0, .int .i64 0] 118)) mb rb X) := zq22
 have AP : Hid (∀ W, CS 272 #[.int .i64 i.op] (.int .i64 (kD i.op)) W) := zq79
 have hkk := kD_ok i.op
 unfold niC at hwa
 unfold atX
 rw [if_neg h4]
 have AL := hide1 (x_alignFault (kD i.op))
 obtain ⟨a, hae⟩ := zn1 (X.x.getD i.rs1 0)
 obtain ⟨k, hke⟩ := zn1 (kD i.op)
 simp only [<- hae] at A1 ha h4 |-
 simp only [<- hke] at AP AL |-
 have q : ((a : Int) % 4 != 0) = true := by simp; omega
 unfold niV excA
 obtain ⟨op, rd, rs1, rs2, im, ln⟩ := i
 dsimp only at *
 clear hX hi hae hke h4 hkk
 go_enter func201, ntmps201
 go_wp2_with (first | (go_at_call 39; refine (A1.out _ hwa).mono ?_; rintro o w5 ⟨rfl, rfl⟩) | (go_at_call 272; refine (AP.out _).mono ?_; rintro o w5 ⟨rfl, rfl⟩) | (go_at_call 273; refine (AL.out _).mono ?_; rintro o w5 ⟨rfl, rfl⟩))
 refine bodyPost_ret (v := .agg #[.int .i64 (xalgD k), .int .i64 a]) (by simp [results, results201, go_sem]) rfl ⟨rfl, (hw.out.alloc _).alloc _, ((Kept.refl _ _).alloc _).alloc _⟩
theorem x_atomic_f (mb rb X) (hX : XOk X) (i : NI) (hi : NIOk i) (h4 : X.x.getD i.rs1 0 % 4 = 0) (hf : ¬ (trD X.b (xC X) (X.x.getD i.rs1 0) (kD i.op)).1.2 = 0) (w) (hw : Hid (XAt w mb rb X)) :
 CX 201 #[.pointer (some ⟨mb, 0, none⟩), niV i] (excA (atX X i).1.1 (atX X i).1.2) [mb, rb] mb rb ((atX X i).2) w := by
 have hlt := hw.out.lt
 have hrlt := hw.out.rlt
 have hlt' : ¬ mb = w.heap.size := by omega
 have ha := hX.xr i.rs1
 have A1 := hide1 (fun W h => x_register mb rb X i.rs1 hi.rs1 W h)
 have hwa : Hid (XAt ((w.alloc (niC i)).alloc (.cells #[.int .i64 0, .int .i64 0] 118)) mb rb X) := zq22
 have AP : Hid (∀ W, CS 272 #[.int .i64 i.op] (.int .i64 (kD i.op)) W) := zq79
 have hkk := kD_ok i.op
 unfold niC at hwa
 unfold atX
 rw [if_pos h4]
 have TR := hide1 (fun W h => x_translate mb rb X hX (X.x.getD i.rs1 0) (kD i.op) ha hkk W h)
 have hok := tr_ok hX.b (xC X) (X.x.getD i.rs1 0) (kD i.op)
 have hpal := (tr_lt X.b (xC X) (X.x.getD i.rs1 0) (kD i.op) ha).1
 unfold wordAtD
 obtain ⟨T, hT⟩ := zn1 (trD X.b (xC X) (X.x.getD i.rs1 0) (kD i.op))
 simp only [<- hT] at TR hok hpal hf |-
 clear hT
 obtain ⟨⟨pa, f⟩, B⟩ := T
 have hXB := XS.okB hX hok
 have hram := hok.ram
 dsimp only at TR hok hpal hram hXB hf |-
 unfold wordAtP
 dsimp only
 obtain ⟨a, hae⟩ := zn1 (X.x.getD i.rs1 0)
 simp only [<- hae] at A1 ha h4 TR |-
 have q : ((a : Int) % 4 != 0) = false := by simp; omega
 rw [if_neg hf]
 unfold atF
 dsimp only
 rw [if_neg hf, <- hae]
 simp only [trV_no ((pa, f), B) a (kD i.op) hf] at TR
 try dsimp only at TR
 have hn := xfau_ne f (kD i.op)
 obtain ⟨c, hc⟩ := zn1 (xfauD f (kD i.op))
 simp only [<- hc] at TR hn |-
 obtain ⟨k, hke⟩ := zn1 (kD i.op)
 simp only [<- hke] at AP TR |-
 unfold niV excA
 obtain ⟨op, rd, rs1, rs2, im, ln⟩ := i
 dsimp only at *
 clear hX hi hae hke h4 hkk hf hc hXB hok hram hw
 go_enter func201, ntmps201
 go_wp2_with (first | (go_at_call 39; refine (A1.out _ hwa).mono ?_; rintro o w5 ⟨rfl, rfl⟩) | (go_at_call 272; refine (AP.out _).mono ?_; rintro o w5 ⟨rfl, rfl⟩))
 refine (TR.out _ hwa).mono ?_
 rintro o w1 ⟨rfl, hx1, hk1⟩
 obtain ⟨rc0w1, rc1w1, rfw1, rzw1, rzw11, rnw11, rzw12, rnw12, rzw13, rnw13, rzw14, rnw14⟩ : Zc2 w1 (w.heap.size + 1) 0 0 := zq167
 go_wp2_with (first | (go_at_call 82; refine (x_none _ _ _).mono ?_; rintro o wn ⟨rfl, rfl⟩))
 exact zq281
theorem x_atomic_n (mb rb X) (hX : XOk X) (i : NI) (hi : NIOk i) (h4 : X.x.getD i.rs1 0 % 4 = 0) (hf : (trD X.b (xC X) (X.x.getD i.rs1 0) (kD i.op)).1.2 = 0) (hh : holdsD ((trD X.b (xC X) (X.x.getD i.rs1 0) (kD i.op)).1.1 : Nat) 4 (trD X.b (xC X) (X.x.getD i.rs1 0) (kD i.op)).2.ram.length = false) (w) (hw : Hid (XAt w mb rb X)) :
 CX 201 #[.pointer (some ⟨mb, 0, none⟩), niV i] (excA (atX X i).1.1 (atX X i).1.2) [mb, rb] mb rb ((atX X i).2) w := by
 have hlt := hw.out.lt
 have hrlt := hw.out.rlt
 have hlt' : ¬ mb = w.heap.size := by omega
 have ha := hX.xr i.rs1
 have A1 := hide1 (fun W h => x_register mb rb X i.rs1 hi.rs1 W h)
 have hwa : Hid (XAt ((w.alloc (niC i)).alloc (.cells #[.int .i64 0, .int .i64 0] 118)) mb rb X) := zq22
 have AP : Hid (∀ W, CS 272 #[.int .i64 i.op] (.int .i64 (kD i.op)) W) := zq79
 have hkk := kD_ok i.op
 unfold niC at hwa
 unfold atX
 rw [if_pos h4]
 have TR := hide1 (fun W h => x_translate mb rb X hX (X.x.getD i.rs1 0) (kD i.op) ha hkk W h)
 have hok := tr_ok hX.b (xC X) (X.x.getD i.rs1 0) (kD i.op)
 have hpal := (tr_lt X.b (xC X) (X.x.getD i.rs1 0) (kD i.op) ha).1
 unfold wordAtD
 obtain ⟨T, hT⟩ := zn1 (trD X.b (xC X) (X.x.getD i.rs1 0) (kD i.op))
 simp only [<- hT] at TR hok hpal hf hh |-
 clear hT
 obtain ⟨⟨pa, f⟩, B⟩ := T
 have hXB := XS.okB hX hok
 have hram := hok.ram
 dsimp only at TR hok hpal hram hXB hf hh |-
 unfold wordAtP
 dsimp only
 obtain ⟨a, hae⟩ := zn1 (X.x.getD i.rs1 0)
 simp only [<- hae] at A1 ha h4 TR |-
 have q : ((a : Int) % 4 != 0) = false := by simp; omega
 rw [if_pos hf, if_neg (by rw [hh]; simp)]
 subst hf
 unfold atF
 dsimp only
 rw [if_neg (by simp), <- hae]
 simp only [trV_ok ((pa, 0), B) a (kD i.op) rfl] at TR
 try dsimp only at TR
 have IR : Hid (∀ W, Hid (XAt W mb rb (X.withB B)) -> CS 261 #[.pointer (some ⟨mb, 0, none⟩), .int .i64 pa, .int .i64 4] (.bool false) W) := zq80
 have FC : Hid (∀ W, CS 274 #[.int .i64 2, .int .i64 (kD i.op)] (.int .i64 (xfauD 2 (kD i.op))) W) := hide1 (fun W => x_faultCause 2 (kD i.op) W)
 have e2 : xfauD ((2 : Nat) : Int) (kD i.op) = xfauD 2 (kD i.op) := rfl
 rw [e2]
 obtain ⟨c, hc⟩ := zn1 (xfauD 2 (kD i.op))
 simp only [<- hc] at FC |-
 obtain ⟨k, hke⟩ := zn1 (kD i.op)
 simp only [<- hke] at AP TR FC |-
 unfold niV excA
 obtain ⟨op, rd, rs1, rs2, im, ln⟩ := i
 dsimp only at *
 clear hX hi hae hke h4 hkk hc hXB hok hram hw hh
 go_enter func201, ntmps201
 go_wp2_with (first | (go_at_call 39; refine (A1.out _ hwa).mono ?_; rintro o w5 ⟨rfl, rfl⟩) | (go_at_call 272; refine (AP.out _).mono ?_; rintro o w5 ⟨rfl, rfl⟩))
 refine (TR.out _ hwa).mono ?_
 rintro o w1 ⟨rfl, hx1, hk1⟩
 obtain ⟨rc0w1, rc1w1, rfw1, rzw1, rzw11, rnw11, rzw12, rnw12, rzw13, rnw13, rzw14, rnw14⟩ : Zc2 w1 (w.heap.size + 1) 0 0 := zq167
 have hx2 := hide1 ((hx1.alloc (.cells #[.int .i64 (-1), .int .i64 0] 118)).alloc (.cells #[.int .i64 (-1), .int .i64 0] 118))
 go_wp2_with (first | (go_at_call 82; refine (x_none _ _ _).mono ?_; rintro o wn ⟨rfl, rfl⟩) | (go_at_call 261; refine (IR.out _ hx2).mono ?_; rintro o w5 ⟨rfl, rfl⟩) | (go_at_call 274; refine (FC.out _).mono ?_; rintro o w5 ⟨rfl, rfl⟩))
 exact zq281
theorem x_atomic_lr (mb rb X) (hX : XOk X) (i : NI) (hi : NIOk i) (hop : i.op = 50) (h4 : X.x.getD i.rs1 0 % 4 = 0) (hf : (trD X.b (xC X) (X.x.getD i.rs1 0) (kD i.op)).1.2 = 0) (hh : holdsD ((trD X.b (xC X) (X.x.getD i.rs1 0) (kD i.op)).1.1 : Nat) 4 (trD X.b (xC X) (X.x.getD i.rs1 0) (kD i.op)).2.ram.length = true) (w) (hw : Hid (XAt w mb rb X)) :
 CX 201 #[.pointer (some ⟨mb, 0, none⟩), niV i] (excA (atX X i).1.1 (atX X i).1.2) [mb, rb] mb rb ((atX X i).2) w := by
 have hlt := hw.out.lt
 have hrlt := hw.out.rlt
 have hlt' : ¬ mb = w.heap.size := by omega
 have ha := hX.xr i.rs1
 have A1 := hide1 (fun W h => x_register mb rb X i.rs1 hi.rs1 W h)
 have hwa : Hid (XAt ((w.alloc (niC i)).alloc (.cells #[.int .i64 0, .int .i64 0] 118)) mb rb X) := zq22
 have AP : Hid (∀ W, CS 272 #[.int .i64 i.op] (.int .i64 (kD i.op)) W) := zq79
 have hkk := kD_ok i.op
 unfold niC at hwa
 unfold atX
 rw [if_pos h4]
 have TR := hide1 (fun W h => x_translate mb rb X hX (X.x.getD i.rs1 0) (kD i.op) ha hkk W h)
 have hok := tr_ok hX.b (xC X) (X.x.getD i.rs1 0) (kD i.op)
 have hpal := (tr_lt X.b (xC X) (X.x.getD i.rs1 0) (kD i.op) ha).1
 unfold wordAtD
 obtain ⟨T, hT⟩ := zn1 (trD X.b (xC X) (X.x.getD i.rs1 0) (kD i.op))
 simp only [<- hT] at TR hok hpal hf hh |-
 clear hT
 obtain ⟨⟨pa, f⟩, B⟩ := T
 have hXB := XS.okB hX hok
 have hram := hok.ram
 dsimp only at TR hok hpal hram hXB hf hh |-
 unfold wordAtP
 dsimp only
 obtain ⟨a, hae⟩ := zn1 (X.x.getD i.rs1 0)
 simp only [<- hae] at A1 ha h4 TR |-
 have q : ((a : Int) % 4 != 0) = false := by simp; omega
 rw [if_pos hf, if_pos hh]
 subst hf
 unfold atF
 dsimp only
 rw [if_pos rfl]
 obtain ⟨hr1, hr2⟩ := holdsD_at hh
 simp only [trV_ok ((pa, 0), B) a (kD i.op) rfl] at TR
 try dsimp only at TR
 have IR : Hid (∀ W, Hid (XAt W mb rb (X.withB B)) -> CS 261 #[.pointer (some ⟨mb, 0, none⟩), .int .i64 pa, .int .i64 4] (.bool true) W) := zq80
 obtain ⟨p, hpp⟩ := zn1 (pa - 2147483648)
 have hpe : pa = 2147483648 + p := by omega
 have hl : p + 4 <= (X.withB B).b.ram.length := by show p + 4 <= B.ram.length; omega
 have eG : atG (X.withB B) i pa = lrX (X.withB B) i pa p := by unfold atG; rw [<- hpp]; rw [if_pos hop]
 rw [eG]
 have DO := hide1 (fun W h => x_loadReserved mb rb (X.withB B) hXB i hi pa p hpe hl W h)
 obtain ⟨Y, hY⟩ := zn1 (lrX (X.withB B) i pa p)
 simp only [<- hY] at DO |-
 obtain ⟨k, hke⟩ := zn1 (kD i.op)
 simp only [<- hke] at AP TR
 unfold niV at DO
 unfold niV excA
 obtain ⟨op, rd, rs1, rs2, im, ln⟩ := i
 dsimp only at *
 subst hop
 clear hX hi hae hke h4 hkk hXB hok hram hw hh hpe hl eG hY hpp hr1 hr2
 go_enter func201, ntmps201
 go_wp2_with (first | (go_at_call 39; refine (A1.out _ hwa).mono ?_; rintro o w5 ⟨rfl, rfl⟩) | (go_at_call 272; refine (AP.out _).mono ?_; rintro o w5 ⟨rfl, rfl⟩))
 refine (TR.out _ hwa).mono ?_
 rintro o w1 ⟨rfl, hx1, hk1⟩
 obtain ⟨ic0w1, ic1w1, ic2w1, ic3w1, ic4w1, ic5w1, ifw1, izw1, izw11, inw11, izw12, inw12, izw13, inw13, izw14, inw14⟩ : Zc6 w1 w.heap.size 50 rd rs1 rs2 im ln := zq168
 exact zq282
theorem x_sc (mb rb X) (hX : XOk X) (i : NI) (hi : NIOk i) (pa p : Nat) (hp : pa = 2147483648 + p) (hl : p + 4 <= X.b.ram.length) (w) (hw : Hid (XAt w mb rb X)) :
 CX 276 #[.pointer (some ⟨mb, 0, none⟩), niV i, .int .i64 pa] (.tuple #[]) [mb, rb] mb rb (scX X i pa p) w := by
 cases h : scB X pa with
 | true => exact x_sc_n mb rb X hX i hi pa p hp hl h w hw
 | false => exact x_sc_y mb rb X hX i hi pa p hp hl h w hw
theorem x_atomic_sc (mb rb X) (hX : XOk X) (i : NI) (hi : NIOk i) (hop : i.op = 51) (h4 : X.x.getD i.rs1 0 % 4 = 0) (hf : (trD X.b (xC X) (X.x.getD i.rs1 0) (kD i.op)).1.2 = 0) (hh : holdsD ((trD X.b (xC X) (X.x.getD i.rs1 0) (kD i.op)).1.1 : Nat) 4 (trD X.b (xC X) (X.x.getD i.rs1 0) (kD i.op)).2.ram.length = true) (w) (hw : Hid (XAt w mb rb X)) :
 CX 201 #[.pointer (some ⟨mb, 0, none⟩), niV i] (excA (atX X i).1.1 (atX X i).1.2) [mb, rb] mb rb ((atX X i).2) w := by
 have hlt := hw.out.lt
 have hrlt := hw.out.rlt
 have hlt' : ¬ mb = w.heap.size := by omega
 have ha := hX.xr i.rs1
 have A1 := hide1 (fun W h => x_register mb rb X i.rs1 hi.rs1 W h)
 have hwa : Hid (XAt ((w.alloc (niC i)).alloc (.cells #[.int .i64 0, .int .i64 0] 118)) mb rb X) := zq22
 have AP : Hid (∀ W, CS 272 #[.int .i64 i.op] (.int .i64 (kD i.op)) W) := zq79
 have hkk := kD_ok i.op
 unfold niC at hwa
 unfold atX
 rw [if_pos h4]
 have TR := hide1 (fun W h => x_translate mb rb X hX (X.x.getD i.rs1 0) (kD i.op) ha hkk W h)
 have hok := tr_ok hX.b (xC X) (X.x.getD i.rs1 0) (kD i.op)
 have hpal := (tr_lt X.b (xC X) (X.x.getD i.rs1 0) (kD i.op) ha).1
 unfold wordAtD
 obtain ⟨T, hT⟩ := zn1 (trD X.b (xC X) (X.x.getD i.rs1 0) (kD i.op))
 simp only [<- hT] at TR hok hpal hf hh |-
 clear hT
 obtain ⟨⟨pa, f⟩, B⟩ := T
 have hXB := XS.okB hX hok
 have hram := hok.ram
 dsimp only at TR hok hpal hram hXB hf hh |-
 unfold wordAtP
 dsimp only
 obtain ⟨a, hae⟩ := zn1 (X.x.getD i.rs1 0)
 simp only [<- hae] at A1 ha h4 TR |-
 have q : ((a : Int) % 4 != 0) = false := by simp; omega
 rw [if_pos hf, if_pos hh]
 subst hf
 unfold atF
 dsimp only
 rw [if_pos rfl]
 obtain ⟨hr1, hr2⟩ := holdsD_at hh
 simp only [trV_ok ((pa, 0), B) a (kD i.op) rfl] at TR
 try dsimp only at TR
 have IR : Hid (∀ W, Hid (XAt W mb rb (X.withB B)) -> CS 261 #[.pointer (some ⟨mb, 0, none⟩), .int .i64 pa, .int .i64 4] (.bool true) W) := zq80
 obtain ⟨p, hpp⟩ := zn1 (pa - 2147483648)
 have hpe : pa = 2147483648 + p := by omega
 have hl : p + 4 <= (X.withB B).b.ram.length := by show p + 4 <= B.ram.length; omega
 have eG : atG (X.withB B) i pa = scX (X.withB B) i pa p := by unfold atG; rw [<- hpp]; rw [if_neg (by omega), if_pos hop]
 rw [eG]
 have DO := hide1 (fun W h => x_sc mb rb (X.withB B) hXB i hi pa p hpe hl W h)
 obtain ⟨Y, hY⟩ := zn1 (scX (X.withB B) i pa p)
 simp only [<- hY] at DO |-
 obtain ⟨k, hke⟩ := zn1 (kD i.op)
 simp only [<- hke] at AP TR
 unfold niV at DO
 unfold niV excA
 obtain ⟨op, rd, rs1, rs2, im, ln⟩ := i
 dsimp only at *
 subst hop
 clear hX hi hae hke h4 hkk hXB hok hram hw hh hpe hl eG hY hpp hr1 hr2
 go_enter func201, ntmps201
 go_wp2_with (first | (go_at_call 39; refine (A1.out _ hwa).mono ?_; rintro o w5 ⟨rfl, rfl⟩) | (go_at_call 272; refine (AP.out _).mono ?_; rintro o w5 ⟨rfl, rfl⟩))
 refine (TR.out _ hwa).mono ?_
 rintro o w1 ⟨rfl, hx1, hk1⟩
 obtain ⟨ic0w1, ic1w1, ic2w1, ic3w1, ic4w1, ic5w1, ifw1, izw1, izw11, inw11, izw12, inw12, izw13, inw13, izw14, inw14⟩ : Zc6 w1 w.heap.size 51 rd rs1 rs2 im ln := zq168
 exact zq282
theorem x_atomic_am (mb rb X) (hX : XOk X) (i : NI) (hi : NIOk i) (hop : 52 <= i.op /\ i.op <= 60) (h4 : X.x.getD i.rs1 0 % 4 = 0) (hf : (trD X.b (xC X) (X.x.getD i.rs1 0) (kD i.op)).1.2 = 0) (hh : holdsD ((trD X.b (xC X) (X.x.getD i.rs1 0) (kD i.op)).1.1 : Nat) 4 (trD X.b (xC X) (X.x.getD i.rs1 0) (kD i.op)).2.ram.length = true) (w) (hw : Hid (XAt w mb rb X)) :
 CX 201 #[.pointer (some ⟨mb, 0, none⟩), niV i] (excA (atX X i).1.1 (atX X i).1.2) [mb, rb] mb rb ((atX X i).2) w := by
 have hlt := hw.out.lt
 have hrlt := hw.out.rlt
 have hlt' : ¬ mb = w.heap.size := by omega
 have ha := hX.xr i.rs1
 have A1 := hide1 (fun W h => x_register mb rb X i.rs1 hi.rs1 W h)
 have hwa : Hid (XAt ((w.alloc (niC i)).alloc (.cells #[.int .i64 0, .int .i64 0] 118)) mb rb X) := zq22
 have AP : Hid (∀ W, CS 272 #[.int .i64 i.op] (.int .i64 (kD i.op)) W) := zq79
 have hkk := kD_ok i.op
 unfold niC at hwa
 unfold atX
 rw [if_pos h4]
 have TR := hide1 (fun W h => x_translate mb rb X hX (X.x.getD i.rs1 0) (kD i.op) ha hkk W h)
 have hok := tr_ok hX.b (xC X) (X.x.getD i.rs1 0) (kD i.op)
 have hpal := (tr_lt X.b (xC X) (X.x.getD i.rs1 0) (kD i.op) ha).1
 unfold wordAtD
 obtain ⟨T, hT⟩ := zn1 (trD X.b (xC X) (X.x.getD i.rs1 0) (kD i.op))
 simp only [<- hT] at TR hok hpal hf hh |-
 clear hT
 obtain ⟨⟨pa, f⟩, B⟩ := T
 have hXB := XS.okB hX hok
 have hram := hok.ram
 dsimp only at TR hok hpal hram hXB hf hh |-
 unfold wordAtP
 dsimp only
 obtain ⟨a, hae⟩ := zn1 (X.x.getD i.rs1 0)
 simp only [<- hae] at A1 ha h4 TR |-
 have q : ((a : Int) % 4 != 0) = false := by simp; omega
 rw [if_pos hf, if_pos hh]
 subst hf
 unfold atF
 dsimp only
 rw [if_pos rfl]
 obtain ⟨hr1, hr2⟩ := holdsD_at hh
 simp only [trV_ok ((pa, 0), B) a (kD i.op) rfl] at TR
 try dsimp only at TR
 have IR : Hid (∀ W, Hid (XAt W mb rb (X.withB B)) -> CS 261 #[.pointer (some ⟨mb, 0, none⟩), .int .i64 pa, .int .i64 4] (.bool true) W) := zq80
 obtain ⟨p, hpp⟩ := zn1 (pa - 2147483648)
 have hpe : pa = 2147483648 + p := by omega
 have hl : p + 4 <= (X.withB B).b.ram.length := by show p + 4 <= B.ram.length; omega
 have eG : atG (X.withB B) i pa = amoX (X.withB B) i p := by unfold atG; rw [<- hpp]; rw [if_neg (by omega), if_neg (by omega)]
 rw [eG]
 have DO := hide1 (fun W h => x_modify mb rb (X.withB B) hXB i hi pa p hpe hl hop W h)
 obtain ⟨Y, hY⟩ := zn1 (amoX (X.withB B) i p)
 simp only [<- hY] at DO |-
 obtain ⟨k, hke⟩ := zn1 (kD i.op)
 simp only [<- hke] at AP TR
 unfold niV at DO
 unfold niV excA
 obtain ⟨op, rd, rs1, rs2, im, ln⟩ := i
 dsimp only at *
 have q50 : (op == 50) = false := by simp; omega
 have q51 : (op == 51) = false := by simp; omega
 clear hX hi hae hke h4 hkk hXB hok hram hw hh hpe hl eG hY hpp hr1 hr2 hop
 go_enter func201, ntmps201
 go_wp2_with (first | (go_at_call 39; refine (A1.out _ hwa).mono ?_; rintro o w5 ⟨rfl, rfl⟩) | (go_at_call 272; refine (AP.out _).mono ?_; rintro o w5 ⟨rfl, rfl⟩))
 refine (TR.out _ hwa).mono ?_
 rintro o w1 ⟨rfl, hx1, hk1⟩
 obtain ⟨ic0w1, ic1w1, ic2w1, ic3w1, ic4w1, ic5w1, ifw1, izw1, izw11, inw11, izw12, inw12, izw13, inw13, izw14, inw14⟩ : Zc6 w1 w.heap.size op rd rs1 rs2 im ln := zq168
 exact zq282
theorem x_atomic (mb rb X) (hX : XOk X) (i : NI) (hi : NIOk i) (hop : 50 <= i.op /\ i.op <= 60) (w) (hw : Hid (XAt w mb rb X)) :
 CX 201 #[.pointer (some ⟨mb, 0, none⟩), niV i] (excA (atX X i).1.1 (atX X i).1.2) [mb, rb] mb rb ((atX X i).2) w := by
 by_cases h4 : X.x.getD i.rs1 0 % 4 = 0
 . by_cases hf : (trD X.b (xC X) (X.x.getD i.rs1 0) (kD i.op)).1.2 = 0
   . cases hh : holdsD ((trD X.b (xC X) (X.x.getD i.rs1 0) (kD i.op)).1.1 : Nat) 4 (trD X.b (xC X) (X.x.getD i.rs1 0) (kD i.op)).2.ram.length with
     | false => exact x_atomic_n mb rb X hX i hi h4 hf hh w hw
     | true =>
      by_cases h50 : i.op = 50
      . exact x_atomic_lr mb rb X hX i hi h50 h4 hf hh w hw
      by_cases h51 : i.op = 51
      . exact x_atomic_sc mb rb X hX i hi h51 h4 hf hh w hw
      exact x_atomic_am mb rb X hX i hi (by omega) h4 hf hh w hw
   . exact x_atomic_f mb rb X hX i hi h4 hf w hw
 . exact x_atomic_a mb rb X hX i hi h4 w hw
def penD (X : XS) : Nat := X.c.mip ||| tlnD X.b ||| plnD X.b
theorem tln_lt (B : BusS) (h : B.msip < 2) : tlnD B < 256 := by
 unfold tlnD
 exact nat_or_lt _ _ 8 (by omega) (by cases mtipD B <;> decide)
theorem pln_lt (B : BusS) : plnD B < 4096 := by unfold plnD; split <;> omega
theorem pen_lt (X : XS) (hX : XOk X) : penD X < 4096 := by
 have h1 := hX.mip
 have h2 := tln_lt X.b hX.b.msip
 have h3 := pln_lt X.b
 unfold penD
 exact nat_or_lt _ _ 12 (nat_or_lt _ _ 12 (by omega) (by omega)) h3
theorem x_pending (mb rb X) (hX : XOk X) (w) (hw : Hid (XAt w mb rb X)) :
 CK 126 #[.pointer (some ⟨mb, 0, none⟩)] (.int .i64 (penD X)) w := by
 have c42 := hw.out.c42
 have c61 := hw.out.c61
 have c62 := hw.out.c62
 have c63 := hw.out.c63
 have c64 := hw.out.c64
 have c65 := hw.out.c65
 have c66 := hw.out.c66
 have c67 := hw.out.c67
 have c68 := hw.out.c68
 have c69 := hw.out.c69
 have c70 := hw.out.c70
 have hm := hX.mip
 have ht := tln_lt X.b hX.b.msip
 have hp := pln_lt X.b
 have TL := fun W => hide1 (x_tlines X.b hX.b W)
 have PL := fun W => hide1 (x_plines X.b hX.b.enable W)
 have o1 := b_or X.c.mip (tlnD X.b) (by omega) (by omega)
 have hl1 : (X.c.mip ||| tlnD X.b) < 4096 := nat_or_lt _ _ 12 (by omega) (by omega)
 have o2 := b_or (X.c.mip ||| tlnD X.b) (plnD X.b) (by omega) (by omega)
 unfold penD
 obtain ⟨t, hte⟩ := zn1 (tlnD X.b)
 obtain ⟨p, hpe⟩ := zn1 (plnD X.b)
 simp only [<- hte, <- hpe] at TL PL o1 o2 |-
 obtain ⟨u, hue⟩ := zn1 (X.c.mip ||| t)
 rw [<- hue] at o1 o2 |-
 obtain ⟨v, hve⟩ := zn1 (u ||| p)
 rw [<- hve] at o2 |-
 unfold tmrA at TL
 unfold prtA at PL
 clear hte hpe hue hve hX hm ht hp hl1
 go_enter func126, ntmps126
 go_upto_region 1 with fail
 go_region_held3 (fun w' => w'.cell? ⟨mb, 42, none⟩ = some (.int .i64 X.c.mip) /\ w'.cell? ⟨mb, 61, none⟩ = some (.int .i64 X.b.msip) /\ w'.cell? ⟨mb, 62, none⟩ = some (.int .i64 X.b.time) /\ w'.cell? ⟨mb, 63, none⟩ = some (.int .i64 X.b.timeh) /\ w'.cell? ⟨mb, 64, none⟩ = some (.int .i64 X.b.cmp) /\ w'.cell? ⟨mb, 65, none⟩ = some (.int .i64 X.b.cmph) /\ w'.cell? ⟨mb, 66, none⟩ = some (.int .i64 X.b.enable) /\ w'.cell? ⟨mb, 67, none⟩ = some (.int .i64 X.b.scratch) /\ w'.cell? ⟨mb, 68, none⟩ = some (.bool X.b.lost) /\ w'.cell? ⟨mb, 69, none⟩ = some (.string X.b.rx) /\ w'.cell? ⟨mb, 70, none⟩ = some (.string X.b.tx)) (first | go_keep | exact ⟨hx1.c42, hx1.c61, hx1.c62, hx1.c63, hx1.c64, hx1.c65, hx1.c66, hx1.c67, hx1.c68, hx1.c69, hx1.c70⟩ | exact ⟨hx2.c42, hx2.c61, hx2.c62, hx2.c63, hx2.c64, hx2.c65, hx2.c66, hx2.c67, hx2.c68, hx2.c69, hx2.c70⟩) (first | (go_at_call 185; refine (TL _).out.mono ?_; rintro o w1 ⟨rfl, hk1⟩; have hx1 : XAt w1 mb rb X := XAt.kept hw.out.drew hk1) | (go_at_call 186; refine (PL _).out.mono ?_; rintro o w2 ⟨rfl, hk2⟩; have hx2 : XAt w2 mb rb X := XAt.kept hx1 hk2))
 all_goals
  go_wp2_with fail
  go_ret
  exact ⟨rfl, ((Kept.refl _ _).drew.trans hk1).trans hk2⟩
def askD (X : XS) : Nat := penD X &&& X.c.mie
theorem x_asked (mb rb X) (hX : XOk X) (w) (hw : Hid (XAt w mb rb X)) :
 CK 78 #[.pointer (some ⟨mb, 0, none⟩)] (.int .i64 (askD X)) w := by
 have c41 := hw.out.c41
 have hp := pen_lt X hX
 have hm := hX.mie
 have o1 := b_and (penD X) X.c.mie (by omega) (by omega)
 have PE := hide1 (fun W h => x_pending mb rb X hX W h)
 unfold askD
 obtain ⟨p, hpe⟩ := zn1 (penD X)
 simp only [<- hpe] at PE o1 |-
 obtain ⟨u, hue⟩ := zn1 (p &&& X.c.mie)
 rw [<- hue] at o1 |-
 clear hpe hue hX hm hp
 go_enter func78, ntmps78
 go_upto_region 1 with fail
 go_region_held3 (fun w' => w'.cell? ⟨mb, 41, none⟩ = some (.int .i64 X.c.mie)) (first | go_keep | exact hx1.c41) (first | (go_at_call 126; refine (PE.out _ (hide1 hw.out.drew)).mono ?_; rintro o w1 ⟨rfl, hk1⟩; have hx1 : XAt w1 mb rb X := XAt.kept hw.out.drew hk1))
 all_goals
  go_wp2_with fail
  go_ret
  exact ⟨rfl, (Kept.refl _ _).drew.trans hk1⟩
def dlgB (X : XS) (d c : Nat) : Bool := decide (X.mode ≠ 3) && xhbD d c
theorem x_delegates (mb rb : Nat) (X : XS) (d c : Nat) (hd : d < 4294967296) (w) (hw : Hid (XAt w mb rb X)) :
 CS 128 #[.pointer (some ⟨mb, 0, none⟩), .int .i64 d, .int .i64 c] (.bool (dlgB X d c)) w := by
 have c34 := hw.out.c34
 have HB := hide1 (x_hasBit d c hd)
 unfold dlgB
 obtain ⟨b, hb⟩ := zn1 (xhbD d c)
 simp only [<- hb] at HB |-
 by_cases h : X.mode = 3
 . rw [h] at c34 |-
   clear hb h
   go_enter func128, ntmps128
   go_wp2_with (go_at_call 187; refine (HB.out _).mono ?_; rintro o w1 ⟨rfl, rfl⟩)
   exact zq196
 . have q : ((X.mode : Int) != 3) = true := by simp; omega
   have q' : (X.mode != 3) = true := by simp; omega
   rw [show decide (X.mode ≠ 3) = true by simp [h]]
   clear hb h
   go_enter func128, ntmps128
   go_wp2_with (go_at_call 187; refine (HB.out _).mono ?_; rintro o w1 ⟨rfl, rfl⟩)
   go_ret
   exact ⟨by simp, rfl⟩
def intB (b1 b2 b3 b4 b5 b6 b7 : Bool) (u v : Int) : Int := if (b1 && (b2 || b3)) = true then u else if (b4 && (b5 || (b6 && b7))) = true then v else -1
def intD (X : XS) : Int := intB (!decide (wout (askD X) X.c.mideleg = 0)) (!decide (X.mode = 3)) (bitN X.c.mstatus 3) (!decide (askD X &&& X.c.mideleg = 0)) (decide (X.mode = 0)) (decide (X.mode = 1)) (bitN X.c.mstatus 1) (xmuD (wout (askD X) X.c.mideleg)) (xmuD (askD X &&& X.c.mideleg))
theorem x_interrupt (mb rb X) (hX : XOk X) (w) (hw : Hid (XAt w mb rb X)) :
 CK 79 #[.pointer (some ⟨mb, 0, none⟩)] (.int .i64 (intD X)) w := by
 have hp := pen_lt X hX
 have hms := hX.mstatus
 have hmd := hX.mideleg
 have hal : askD X < 4096 := by unfold askD; exact Nat.lt_of_le_of_lt Nat.and_le_left hp
 have AK := hide1 (fun W h => x_asked mb rb X hX W h)
 have o1 := b_andn (askD X) X.c.mideleg (by omega) (by omega)
 have o2 := b_and (askD X) X.c.mideleg (by omega) (by omega)
 have l1 : wout (askD X) X.c.mideleg < 4294967296 := Nat.lt_of_le_of_lt (wout_le _ _) (by omega)
 have l2 : (askD X &&& X.c.mideleg) < 4294967296 := Nat.lt_of_le_of_lt Nat.and_le_left (by omega)
 have M1 := hide1 (x_mostUrgent _ l1)
 have M2 := hide1 (x_mostUrgent _ l2)
 have n1 := ne0 (wout (askD X) X.c.mideleg)
 have n2 := ne0 (askD X &&& X.c.mideleg)
 have s1 : bits .and .i64 (X.c.mstatus : Int) 8 = ((X.c.mstatus &&& 8 : Nat) : Int) := b_and X.c.mstatus 8 (by omega) (by omega)
 have s3 := ne0 (X.c.mstatus &&& 8)
 rw [show decide (X.c.mstatus &&& 8 = 0) = !bitN X.c.mstatus 3 from t_bit _ 3, Bool.not_not, <- s1] at s3
 have s2 : bits .and .i64 (X.c.mstatus : Int) 2 = ((X.c.mstatus &&& 2 : Nat) : Int) := b_and X.c.mstatus 2 (by omega) (by omega)
 have s4 := ne0 (X.c.mstatus &&& 2)
 rw [show decide (X.c.mstatus &&& 2 = 0) = !bitN X.c.mstatus 1 from t_bit _ 1, Bool.not_not, <- s2] at s4
 have m3 : ((X.mode : Int) != 3) = !decide (X.mode = 3) := by by_cases h : X.mode = 3 <;> simp [h]; omega
 have m0 : ((X.mode : Int) == 0) = decide (X.mode = 0) := by by_cases h : X.mode = 0 <;> simp [h]
 have m1 : ((X.mode : Int) == 1) = decide (X.mode = 1) := by by_cases h : X.mode = 1 <;> simp [h]; omega
 unfold intD
 obtain ⟨a, hae⟩ := zn1 (askD X)
 simp only [<- hae] at AK o1 o2 M1 M2 n1 n2 l1 l2 |-
 obtain ⟨fm, hfm⟩ := zn1 (wout a X.c.mideleg)
 obtain ⟨fs, hfs⟩ := zn1 (a &&& X.c.mideleg)
 simp only [<- hfm] at o1 M1 n1 l1 |-
 simp only [<- hfs] at o2 M2 n2 l2 |-
 obtain ⟨b1, e1⟩ := zn1 (!decide (fm = 0))
 obtain ⟨b2, e2⟩ := zn1 (!decide (X.mode = 3))
 obtain ⟨b3, e3⟩ := zn1 (bitN X.c.mstatus 3)
 obtain ⟨b4, e4⟩ := zn1 (!decide (fs = 0))
 obtain ⟨b5, e5⟩ := zn1 (decide (X.mode = 0))
 obtain ⟨b6, e6⟩ := zn1 (decide (X.mode = 1))
 obtain ⟨b7, e7⟩ := zn1 (bitN X.c.mstatus 1)
 rw [<- e1] at n1 |-
 rw [<- e2] at m3 |-
 rw [<- e3] at s3 |-
 rw [<- e4] at n2 |-
 rw [<- e5] at m0 |-
 rw [<- e6] at m1 |-
 rw [<- e7] at s4 |-
 obtain ⟨T, hT⟩ := zn1 (intB b1 b2 b3 b4 b5 b6 b7 (xmuD fm) (xmuD fs))
 rw [<- hT]
 unfold intB at hT
 have HT := hide1 hT
 clear hT e1 e2 e3 e4 e5 e6 e7 hfm hfs hae hX hp hms hmd hal s1 s2 l1 l2
 go_enter func79, ntmps79
 go_wp2_with fail
 refine (AK.out _ hw).mono ?_
 rintro o w1 ⟨rfl, hk1⟩
 have hx1 := hw.out.kept hk1
 have c34 := hx1.c34
 have c38 := hx1.c38
 have c40 := hx1.c40
 go_wp2_with (first | (go_at_call_of 127 (Value.int IntKind.i64 (fm : Int)); refine (M1.out _).mono ?_; rintro o w2 ⟨rfl, rfl⟩) | (go_at_call_of 127 (Value.int IntKind.i64 (fs : Int)); refine (M2.out _).mono ?_; rintro o w2 ⟨rfl, rfl⟩))
 all_goals (go_ret; refine ⟨ret_intE ?_, hk1⟩; rw [HT.out]; simp_all)
end
end Go.Proofs.YtmlgonbhoknoiabGreatDoor
