import Derived.Test.YtmlgonbhoknoiabGreatDoorYAD
set_option maxHeartbeats 8000000
set_option linter.all false
namespace Go.Proofs.YtmlgonbhoknoiabGreatDoor
open Go.RowKit Go.Proofs.Tryz
section
attribute [local go_sem ↓] Go.wp_at_zero Go.wp_at_succ
theorem XS.okB {X : XS} (hX : XOk X) {B : BusS} (hB : BusOk B) : XOk (X.withB B) := ⟨hB, hX.x, hX.xr, hX.pc, hX.mode, hX.mstatus, hX.satp, hX.mie, hX.mip, hX.medeleg, hX.mideleg, hX.mtvec, hX.mcen, hX.minh, hX.mscratch, hX.mepc, hX.mcause, hX.mtval, hX.stvec, hX.scen, hX.sscratch, hX.sepc, hX.scause, hX.stval, hX.cyc, hX.cych, hX.ret, hX.reth, hX.resv, hX.mpp⟩
theorem xfau_ne (f k : Int) : (xfauD f k == -1) = false := by
 unfold xfauD
 repeat' split
 all_goals decide
theorem x_fetchHalf (mb rb X) (hX : XOk X) (va : Nat) (hva : va < 4294967296) (w) (hw : Hid (XAt w mb rb X)) :
 CX 191 #[.pointer (some ⟨mb, 0, none⟩), .int .i64 va] (trV (halfD X.b (xC X) va) va 0) [rb] mb rb (X.withB (halfD X.b (xC X) va).2) w := by
 have hlt := hw.out.lt
 have hrlt := hw.out.rlt
 have hwa : Hid (XAt (w.alloc (.cells #[.int .i64 0, .int .i64 0] 118)) mb rb X) := zq10
 have TR : Hid (∀ W, Hid (XAt W mb rb X) -> CX 260 #[.pointer (some ⟨mb, 0, none⟩), .int .i64 va, .int .i64 0] (trV (trD X.b (xC X) va 0) va 0) [rb] mb rb (X.withB (trD X.b (xC X) va 0).2) W) := hide1 (fun W h => x_translate mb rb X hX va 0 hva (.inl rfl) W h)
 have hok := tr_ok hX.b (xC X) va 0
 have hpa := (tr_lt X.b (xC X) va 0 hva).1
 unfold halfD
 obtain ⟨T, hT⟩ := zn1 (trD X.b (xC X) va 0)
 simp only [<- hT] at TR
 rw [<- hT] at hok hpa |-
 clear hT
 obtain ⟨⟨pa, f⟩, B⟩ := T
 have hXB := XS.okB hX hok
 have hram := hok.ram
 dsimp only at TR hok hpa hXB hram |-
 unfold halfP
 dsimp only
 have eB : (X.withB B).b = B := rfl
 by_cases h0 : f = 0
 . subst h0
   rw [if_pos rfl]
   rw [show trV ((pa, 0), B) va 0 = .tuple #[.int .i64 pa, .agg #[.int .i64 (-1), .int .i64 0]] from rfl] at TR
   have IR : ∀ W, Hid (XAt W mb rb (X.withB B)) -> CS 261 #[.pointer (some ⟨mb, 0, none⟩), .int .i64 pa, .int .i64 2] (.bool (holdsD pa 2 B.ram.length)) W := fun W h => x_isRam mb rb (X.withB B) hram pa 2 (by omega) (by omega) (by omega) (by omega) W h
   cases hh : holdsD (pa : Nat) 2 B.ram.length with
   | false =>
    rw [if_neg (by simp)]
    rw [show trV ((0, 2), B) va 0 = .tuple #[.int .i64 0, .agg #[.int .i64 1, .int .i64 va]] from rfl]
    simp only [hh] at IR
    have HI := hide1 IR
    clear IR hh hX hw hXB
    go_enter func191, ntmps191
    go_wp2_with fail
    refine (TR.out _ hwa).mono ?_
    rintro o w1 ⟨rfl, hx1, hk1⟩
    have rc0w1 : w1.cell? ⟨w.heap.size, 0, none⟩ = some (.int .i64 0) := zq13
    have rc1w1 : w1.cell? ⟨w.heap.size, 1, none⟩ = some (.int .i64 0) := zq13
    have rfw1 : ∀ o, w1.frozen? ⟨w.heap.size, o, none⟩ = false := zq14
    have rzw1 : w.heap.size < w1.heap.size := zq15
    have hx2 : Hid (XAt ((w1.alloc (.cells #[.int .i64 (-1), .int .i64 0] 118)).alloc (.cells #[.int .i64 (-1), .int .i64 0] 118)) mb rb (X.withB B)) := zq16
    go_wp2_with (first | (go_at_call 82; refine (x_none _ _ _).mono ?_; rintro o wn ⟨rfl, rfl⟩) | (go_at_call 261; refine (HI.out _ hx2).mono ?_; rintro o w2 ⟨rfl, rfl⟩))
    refine bodyPost_ret (v := .tuple #[.int .i64 0, .agg #[.int .i64 1, .int .i64 va]]) zq503 rfl ⟨rfl, hx1.box w.heap.size ?_ hlt hrlt, ?_⟩
    . exact zq239
    . exact zq240
   | true =>
    rw [if_pos rfl]
    have hr : 2147483648 <= pa /\ pa - 2147483648 + 2 <= B.ram.length := by
     have h := hh
     unfold holdsD at h; simp at h; omega
    obtain ⟨p, hp⟩ := zn1 (pa - 2147483648)
    rw [<- hp] at hr |-
    have RN : Hid (∀ W, Hid (XAt W mb rb (X.withB B)) -> CS 262 #[.pointer (some ⟨mb, 0, none⟩), .int .i64 pa, .int .i64 2] (.int .i64 (rdRam B p 2)) W) := hide1 (fun W h => x_ramNumber_yes mb rb (X.withB B) hram pa p 2 (by omega) (by omega) (by omega) hr.2 W h)
    obtain ⟨v, hv⟩ := zn1 (rdRam B p 2)
    simp only [<- hv] at RN
    rw [<- hv]
    rw [show trV ((v, 0), B) va 0 = .tuple #[.int .i64 v, .agg #[.int .i64 (-1), .int .i64 0]] from rfl]
    simp only [hh] at IR
    have HI := hide1 IR
    clear IR hh hX hw hXB hp hr hv
    go_enter func191, ntmps191
    go_wp2_with fail
    refine (TR.out _ hwa).mono ?_
    rintro o w1 ⟨rfl, hx1, hk1⟩
    have rc0w1 : w1.cell? ⟨w.heap.size, 0, none⟩ = some (.int .i64 0) := zq13
    have rc1w1 : w1.cell? ⟨w.heap.size, 1, none⟩ = some (.int .i64 0) := zq13
    have rfw1 : ∀ o, w1.frozen? ⟨w.heap.size, o, none⟩ = false := zq14
    have rzw1 : w.heap.size < w1.heap.size := zq15
    have hx2 : Hid (XAt ((w1.alloc (.cells #[.int .i64 (-1), .int .i64 0] 118)).alloc (.cells #[.int .i64 (-1), .int .i64 0] 118)) mb rb (X.withB B)) := zq16
    have hx3 := hide1 hx2.out.drew
    go_upto_region 6 with (first | (go_at_call 82; refine (x_none _ _ _).mono ?_; rintro o wn ⟨rfl, rfl⟩) | (go_at_call 261; refine (HI.out _ hx2).mono ?_; rintro o w2 ⟨rfl, rfl⟩))
    go_region_with (first | (go_at_call 262; refine (RN.out _ hx3).mono ?_; rintro o w2 ⟨rfl, rfl⟩))
    all_goals
     go_wp2_with fail
     refine bodyPost_ret (v := .tuple #[.int .i64 v, .agg #[.int .i64 (-1), .int .i64 0]]) zq503 rfl ⟨rfl, hx1.box w.heap.size ?_ hlt hrlt, ?_⟩
     . exact zq239
     . exact zq240
 . rw [if_neg h0]
   rw [show trV ((pa, f), B) va 0 = .tuple #[.int .i64 0, .agg #[.int .i64 (xfauD f 0), .int .i64 va]] by unfold trV; dsimp only; rw [if_neg h0]; rfl] at TR
   rw [show trV ((0, f), B) va 0 = .tuple #[.int .i64 0, .agg #[.int .i64 (xfauD f 0), .int .i64 va]] by unfold trV; dsimp only; rw [if_neg h0]; rfl]
   have hn := xfau_ne f 0
   obtain ⟨c, hc⟩ := zn1 (xfauD f 0)
   simp only [<- hc] at TR hn |-
   clear h0 hX hw hXB hc
   go_enter func191, ntmps191
   go_wp2_with fail
   refine (TR.out _ hwa).mono ?_
   rintro o w1 ⟨rfl, hx1, hk1⟩
   have rc0w1 : w1.cell? ⟨w.heap.size, 0, none⟩ = some (.int .i64 0) := zq13
   have rc1w1 : w1.cell? ⟨w.heap.size, 1, none⟩ = some (.int .i64 0) := zq13
   have rfw1 : ∀ o, w1.frozen? ⟨w.heap.size, o, none⟩ = false := zq14
   have rzw1 : w.heap.size < w1.heap.size := zq15
   go_upto_region 3 with (first | (go_at_call 82; refine (x_none _ _ _).mono ?_; rintro o wn ⟨rfl, rfl⟩))
   go_region
   all_goals
    go_wp2_with fail
    refine bodyPost_ret (v := .tuple #[.int .i64 0, .agg #[.int .i64 c, .int .i64 va]]) zq503 rfl ⟨rfl, hx1.box w.heap.size ?_ hlt hrlt, ?_⟩
    . exact zq239
    . exact zq240
structure Fw where
 w : Nat
 f : Nat
 at' : Nat
def fetchD (B : BusS) (C : CsrS) (pc : Nat) : Fw × BusS :=
 if (halfD B C pc).1.2 = 0 then
  (if (halfD B C pc).1.1 % 4 = 3 then
    (if (halfD (halfD B C pc).2 C ((pc + 2) % 4294967296)).1.2 = 0 then (⟨(halfD B C pc).1.1 + (halfD (halfD B C pc).2 C ((pc + 2) % 4294967296)).1.1 * 65536, 0, 0⟩, (halfD (halfD B C pc).2 C ((pc + 2) % 4294967296)).2)
     else (⟨0, (halfD (halfD B C pc).2 C ((pc + 2) % 4294967296)).1.2, (pc + 2) % 4294967296⟩, (halfD (halfD B C pc).2 C ((pc + 2) % 4294967296)).2))
   else (⟨(halfD B C pc).1.1, 0, 0⟩, (halfD B C pc).2))
 else (⟨0, (halfD B C pc).1.2, pc⟩, (halfD B C pc).2)
def fwV (t : Fw) : Value := if t.f = 0 then .tuple #[.int .i64 t.w, .agg #[.int .i64 (-1), .int .i64 0]] else .tuple #[.int .i64 0, .agg #[.int .i64 (xfauD t.f 0), .int .i64 t.at']]
theorem half_v (B : BusS) (C : CsrS) (va : Nat) : (halfD B C va).1.1 < 65536 := by
 unfold halfD halfP
 repeat' split
 all_goals dsimp only
 . exact rdRam_lt _ _ 2
 all_goals omega
theorem trV_ok (t : (Nat × Nat) × BusS) (va k : Nat) (h : t.1.2 = 0) : trV t va k = .tuple #[.int .i64 t.1.1, .agg #[.int .i64 (-1), .int .i64 0]] := by unfold trV; rw [if_pos h]
theorem trV_no (t : (Nat × Nat) × BusS) (va k : Nat) (h : ¬ t.1.2 = 0) : trV t va k = .tuple #[.int .i64 0, .agg #[.int .i64 (xfauD t.1.2 k), .int .i64 va]] := by unfold trV; rw [if_neg h]
theorem wordN_add2 (pc : Nat) : wordN ((pc : Int) + 2) = (pc + 2) % 4294967296 := by unfold wordN; omega
theorem x_fetch (mb rb X) (hX : XOk X) (w) (hw : Hid (XAt w mb rb X)) :
 CX 131 #[.pointer (some ⟨mb, 0, none⟩)] (fwV (fetchD X.b (xC X) X.pc).1) [rb] mb rb (X.withB (fetchD X.b (xC X) X.pc).2) w := by
 have hlt := hw.out.lt
 have hrlt := hw.out.rlt
 have c33 := hw.out.c33
 have hpc := hX.pc
 have hwa : Hid (XAt (w.alloc (.cells #[.int .i64 0, .int .i64 0] 118)) mb rb X) := zq10
 have H1 := hide1 (fun W h => x_fetchHalf mb rb X hX X.pc hpc W h)
 have hok := half_ok hX.b (xC X) X.pc
 have hv := half_v X.b (xC X) X.pc
 unfold fetchD
 have ep : ∀ B, (X.withB B).pc = X.pc := fun _ => rfl
 obtain ⟨T, hT⟩ := zn1 (halfD X.b (xC X) X.pc)
 simp only [<- hT] at H1 hok hv |-
 clear hT
 obtain ⟨⟨lo, f⟩, B⟩ := T
 have hXB := XS.okB hX hok
 dsimp only at hok hv hXB |-
 by_cases h0 : f = 0
 . subst h0
   rw [if_pos rfl]
   simp only [trV_ok ((lo, 0), B) X.pc 0 rfl] at H1
   try dsimp only at H1
   have m3 : bits .and .i64 (lo : Int) 3 = ((lo % 4 : Nat) : Int) := by rw [and_three]; simp
   by_cases h3 : lo % 4 = 3
   . rw [if_pos h3]
     rw [h3] at m3
     have m3' : bits .and .i64 (lo : Int) 3 = 3 := m3
     have H2 := hide1 (fun W h => x_fetchHalf mb rb (X.withB B) hXB ((X.pc + 2) % 4294967296) (by omega) W h)
     have eC : xC (X.withB B) = xC X := rfl
     have eb : (X.withB B).b = B := rfl
     simp only [eC, eb] at H2
     have hok2 := half_ok hok (xC X) ((X.pc + 2) % 4294967296)
     have hv2 := half_v B (xC X) ((X.pc + 2) % 4294967296)
     have WD : Hid (∀ W, CS 135 #[.int .i64 ((X.pc : Int) + 2)] (.int .i64 ((X.pc + 2) % 4294967296 : Nat)) W) := hide1 (fun W => by have := x_word ((X.pc : Int) + 2) W; rw [wordN_add2] at this; exact this)
     obtain ⟨nx, hnx⟩ := zn1 ((X.pc + 2) % 4294967296)
     simp only [<- hnx] at H2 hok2 hv2 WD |-
     obtain ⟨T, hT⟩ := zn1 (halfD B (xC X) nx)
     simp only [<- hT] at H2 hok2 hv2 |-
     clear hT hnx m3
     obtain ⟨⟨hi, f2⟩, B2⟩ := T
     have hBB : (X.withB B).withB B2 = X.withB B2 := rfl
     simp only [hBB] at H2
     dsimp only at H2 hok2 hv2 |-
     by_cases h2 : f2 = 0
     . subst h2
       rw [if_pos rfl]
       simp only [trV_ok ((hi, 0), B2) nx 0 rfl] at H2
       rw [show fwV ⟨lo + hi * 65536, 0, 0⟩ = .tuple #[.int .i64 ((lo + hi * 65536 : Nat) : Int), .agg #[.int .i64 (-1), .int .i64 0]] from rfl]
       try dsimp only at H2 |-
       have wr : IntKind.i64.wrap ((hi : Int) * 65536) = ((hi * 65536 : Nat) : Int) := zq9
       have wr2 : IntKind.i64.wrap ((lo : Int) + ((hi * 65536 : Nat) : Int)) = ((lo + hi * 65536 : Nat) : Int) := zq9
       clear hX hXB hw h3
       go_enter func131, ntmps131
       go_wp2_with fail
       refine (H1.out _ hwa).mono ?_
       rintro o w1 ⟨rfl, hx1, hk1⟩
       have rc0w1 : w1.cell? ⟨w.heap.size, 0, none⟩ = some (.int .i64 0) := zq17
       have rc1w1 : w1.cell? ⟨w.heap.size, 1, none⟩ = some (.int .i64 0) := zq17
       have rfw1 : ∀ o, w1.frozen? ⟨w.heap.size, o, none⟩ = false := zq18
       have rzw1 : w.heap.size < w1.heap.size := zq15
       have c33b := hx1.c33
       have hl1 := hx1.lt
       rw [ep] at c33b
       have hx2 : Hid (XAt ((w1.alloc (.cells #[.int .i64 (-1), .int .i64 0] 118)).alloc (.cells #[.int .i64 (-1), .int .i64 0] 118)) mb rb (X.withB B)) := zq16
       go_wp2_with (first | (go_at_call 82; refine (x_none _ _ _).mono ?_; rintro o wn ⟨rfl, rfl⟩) | (go_at_call 135; refine (WD.out _).mono ?_; rintro o w2 ⟨rfl, rfl⟩))
       refine (H2.out _ hx2).mono ?_
       rintro o w2 ⟨rfl, hx3, hk2⟩
       have rc0w2 : w2.cell? ⟨w.heap.size, 0, none⟩ = some (.int .i64 0) := zq19
       have rc1w2 : w2.cell? ⟨w.heap.size, 1, none⟩ = some (.int .i64 0) := zq19
       have rfw2 : ∀ o, w2.frozen? ⟨w.heap.size, o, none⟩ = false := zq20
       have rzw2 : w.heap.size < w2.heap.size := zq21
       have mc0w2 : w2.cell? ⟨w1.heap.size, 0, none⟩ = some (.int .i64 (-1)) := zq19
       have mc1w2 : w2.cell? ⟨w1.heap.size, 1, none⟩ = some (.int .i64 0) := zq19
       have mfw2 : ∀ o, w2.frozen? ⟨w1.heap.size, o, none⟩ = false := zq20
       have mzw2 : w1.heap.size < w2.heap.size := zq21
       go_upto_region 7 with (first | (go_at_call 82; refine (x_none _ _ _).mono ?_; rintro o wn ⟨rfl, rfl⟩))
       go_region
       all_goals
        go_wp2_with fail
        refine bodyPost_ret (v := .tuple #[.int .i64 ((lo + hi * 65536 : Nat) : Int), .agg #[.int .i64 (-1), .int .i64 0]]) zq504 rfl ⟨rfl, hx3.more (G := [w.heap.size, w1.heap.size]) ?_ (by simp; omega) (by simp; omega), ?_⟩
        . exact zq239
        . exact zq241
     . rw [if_neg h2]
       simp only [trV_no ((hi, f2), B2) nx 0 h2] at H2
       rw [show fwV ⟨0, f2, nx⟩ = .tuple #[.int .i64 0, .agg #[.int .i64 (xfauD f2 0), .int .i64 nx]] by unfold fwV; dsimp only; rw [if_neg h2]]
       try dsimp only at H2 |-
       have hn := xfau_ne f2 0
       obtain ⟨c, hc⟩ := zn1 (xfauD f2 0)
       have hc' : xfauD f2 ((0 : Nat) : Int) = c := hc.symm
       simp only [hc'] at H2
       rw [<- hc] at hn |-
       clear hX hXB hw h3 h2 hc hc'
       go_enter func131, ntmps131
       go_wp2_with fail
       refine (H1.out _ hwa).mono ?_
       rintro o w1 ⟨rfl, hx1, hk1⟩
       have rc0w1 : w1.cell? ⟨w.heap.size, 0, none⟩ = some (.int .i64 0) := zq17
       have rc1w1 : w1.cell? ⟨w.heap.size, 1, none⟩ = some (.int .i64 0) := zq17
       have rfw1 : ∀ o, w1.frozen? ⟨w.heap.size, o, none⟩ = false := zq18
       have rzw1 : w.heap.size < w1.heap.size := zq15
       have c33b := hx1.c33
       have hl1 := hx1.lt
       rw [ep] at c33b
       have hx2 : Hid (XAt ((w1.alloc (.cells #[.int .i64 (-1), .int .i64 0] 118)).alloc (.cells #[.int .i64 (-1), .int .i64 0] 118)) mb rb (X.withB B)) := zq16
       go_wp2_with (first | (go_at_call 82; refine (x_none _ _ _).mono ?_; rintro o wn ⟨rfl, rfl⟩) | (go_at_call 135; refine (WD.out _).mono ?_; rintro o w2 ⟨rfl, rfl⟩))
       refine (H2.out _ hx2).mono ?_
       rintro o w2 ⟨rfl, hx3, hk2⟩
       have rc0w2 : w2.cell? ⟨w.heap.size, 0, none⟩ = some (.int .i64 0) := zq19
       have rc1w2 : w2.cell? ⟨w.heap.size, 1, none⟩ = some (.int .i64 0) := zq19
       have rfw2 : ∀ o, w2.frozen? ⟨w.heap.size, o, none⟩ = false := zq20
       have rzw2 : w.heap.size < w2.heap.size := zq21
       have mc0w2 : w2.cell? ⟨w1.heap.size, 0, none⟩ = some (.int .i64 (-1)) := zq19
       have mc1w2 : w2.cell? ⟨w1.heap.size, 1, none⟩ = some (.int .i64 0) := zq19
       have mfw2 : ∀ o, w2.frozen? ⟨w1.heap.size, o, none⟩ = false := zq20
       have mzw2 : w1.heap.size < w2.heap.size := zq21
       go_upto_region 6 with (first | (go_at_call 82; refine (x_none _ _ _).mono ?_; rintro o wn ⟨rfl, rfl⟩))
       go_region
       all_goals
        go_wp2_with fail
        refine bodyPost_ret (v := .tuple #[.int .i64 0, .agg #[.int .i64 c, .int .i64 nx]]) zq504 rfl ⟨rfl, hx3.more (G := [w.heap.size, w1.heap.size]) ?_ (by simp; omega) (by simp; omega), ?_⟩
        . exact zq239
        . exact zq241
   . rw [if_neg h3]
     have q : (bits .and .i64 (lo : Int) 3 != 3) = true := by rw [m3]; simp; omega
     rw [show fwV ⟨lo, 0, 0⟩ = .tuple #[.int .i64 lo, .agg #[.int .i64 (-1), .int .i64 0]] from rfl]
     clear hX hXB hw h3 m3
     go_enter func131, ntmps131
     go_wp2_with fail
     refine (H1.out _ hwa).mono ?_
     rintro o w1 ⟨rfl, hx1, hk1⟩
     have rc0w1 : w1.cell? ⟨w.heap.size, 0, none⟩ = some (.int .i64 0) := zq17
     have rc1w1 : w1.cell? ⟨w.heap.size, 1, none⟩ = some (.int .i64 0) := zq17
     have rfw1 : ∀ o, w1.frozen? ⟨w.heap.size, o, none⟩ = false := zq18
     have rzw1 : w.heap.size < w1.heap.size := zq15
     go_upto_region 3 with (first | (go_at_call 82; refine (x_none _ _ _).mono ?_; rintro o wn ⟨rfl, rfl⟩))
     go_region
     all_goals
      go_wp2_with fail
      refine bodyPost_ret (v := .tuple #[.int .i64 lo, .agg #[.int .i64 (-1), .int .i64 0]]) zq505 rfl ⟨rfl, hx1.box w.heap.size ?_ hlt hrlt, ?_⟩
      . exact zq239
      . exact zq240
 . rw [if_neg h0]
   simp only [trV_no ((lo, f), B) X.pc 0 h0] at H1
   rw [show fwV ⟨0, f, X.pc⟩ = .tuple #[.int .i64 0, .agg #[.int .i64 (xfauD f 0), .int .i64 X.pc]] by unfold fwV; dsimp only; rw [if_neg h0]]
   try dsimp only at H1 |-
   have hn := xfau_ne f 0
   obtain ⟨c, hc⟩ := zn1 (xfauD f 0)
   have hc' : xfauD f ((0 : Nat) : Int) = c := hc.symm
   simp only [hc'] at H1
   rw [<- hc] at hn |-
   clear hX hXB hw h0 hc hc'
   go_enter func131, ntmps131
   go_wp2_with fail
   refine (H1.out _ hwa).mono ?_
   rintro o w1 ⟨rfl, hx1, hk1⟩
   have rc0w1 : w1.cell? ⟨w.heap.size, 0, none⟩ = some (.int .i64 0) := zq17
   have rc1w1 : w1.cell? ⟨w.heap.size, 1, none⟩ = some (.int .i64 0) := zq17
   have rfw1 : ∀ o, w1.frozen? ⟨w.heap.size, o, none⟩ = false := zq18
   have rzw1 : w.heap.size < w1.heap.size := zq15
   go_upto_region 3 with (first | (go_at_call 82; refine (x_none _ _ _).mono ?_; rintro o wn ⟨rfl, rfl⟩))
   go_region
   all_goals
    go_wp2_with fail
    refine bodyPost_ret (v := .tuple #[.int .i64 0, .agg #[.int .i64 c, .int .i64 X.pc]]) zq505 rfl ⟨rfl, hx1.box w.heap.size ?_ hlt hrlt, ?_⟩
    . exact zq239
    . exact zq240
def rpP (n : Nat) (t : (Nat × Nat) × BusS) : (Nat × Nat) × BusS := if t.1.2 = 0 then (if takesD (t.1.1 : Nat) (n : Nat) t.2.ram.length = true then t else ((0, 2), t.2)) else ((0, t.1.2), t.2)
def rpD (B : BusS) (C : CsrS) (va n k : Nat) : (Nat × Nat) × BusS := rpP n (trD B C va k)
def rpV (t : (Nat × Nat) × BusS) (va n k : Nat) : Value := if t.1.2 = 0 then .tuple #[.agg #[.int .i64 t.1.1, .int .i64 n], .agg #[.int .i64 (-1), .int .i64 0]] else .tuple #[.agg #[.int .i64 0, .int .i64 0], .agg #[.int .i64 (xfauD t.1.2 k), .int .i64 va]]
def tmB (pa n : Int) : Bool := decide (n = 4 /\ (pa = 33554432 \/ pa = 33570816 \/ pa = 33570820 \/ pa = 33603576 \/ pa = 33603580))
def ptB (pa n : Int) : Bool := decide (n = 1 /\ (pa = 268435456 \/ pa = 268435457 \/ pa = 268435458 \/ pa = 268435461 \/ pa = 268435463))
theorem takes_or (pa n : Int) (L : Nat) : takesD pa n L = (holdsD pa n L || tmB pa n || ptB pa n) := by
 unfold takesD
 cases holdsD pa n L
 . simp only [Bool.false_or]
   rw [if_neg (by simp)]
   have e1 : tmB pa n = (decide (n = 4) && isTmr pa) := by unfold tmB isTmr; simp
   have e2 : ptB pa n = (decide (n = 1) && isPrt pa) := by unfold ptB isPrt; simp
   rw [e1, e2]
   cases ht : isTmr pa with
   | true =>
    have hp : isPrt pa = false := by unfold isTmr at ht; unfold isPrt; simp at ht |-; omega
    rw [hp]; simp
   | false => cases hp : isPrt pa <;> simp
 . simp
theorem rp_ok {B : BusS} (hB : BusOk B) (C : CsrS) (va n k : Nat) : BusOk (rpD B C va n k).2 := by
 have := tr_ok hB C va k
 unfold rpD rpP
 exact zq207
theorem x_reachPortion (mb rb X) (hX : XOk X) (va n k : Nat) (hva : va < 4294967296) (hn1 : 1 <= n) (hn4 : n <= 4) (hkk : k = 0 \/ k = 1 \/ k = 2) (w) (hw : Hid (XAt w mb rb X)) :
 CX 339 #[.pointer (some ⟨mb, 0, none⟩), .int .i64 va, .int .i64 n, .int .i64 k] (rpV (rpD X.b (xC X) va n k) va n k) [rb] mb rb (X.withB (rpD X.b (xC X) va n k).2) w := by
 have hlt := hw.out.lt
 have hrlt := hw.out.rlt
 have hwa : Hid (XAt ((w.alloc (.cells #[.int .i64 0, .int .i64 0] 231)).alloc (.cells #[.int .i64 0, .int .i64 0] 118)) mb rb X) := zq22
 have TR := hide1 (fun W h => x_translate mb rb X hX va k hva hkk W h)
 have hok := tr_ok hX.b (xC X) va k
 have hpa := (tr_lt X.b (xC X) va k hva).1
 unfold rpD
 obtain ⟨T, hT⟩ := zn1 (trD X.b (xC X) va k)
 simp only [<- hT] at TR
 rw [<- hT] at hok hpa |-
 clear hT
 obtain ⟨⟨pa, f⟩, B⟩ := T
 have hXB := XS.okB hX hok
 have hram := hok.ram
 dsimp only at TR hok hpa hXB hram |-
 unfold rpP
 dsimp only
 by_cases h0 : f = 0
 . subst h0
   rw [if_pos rfl]
   simp only [trV_ok ((pa, 0), B) va k rfl] at TR
   have IR : ∀ W, Hid (XAt W mb rb (X.withB B)) -> CS 261 #[.pointer (some ⟨mb, 0, none⟩), .int .i64 pa, .int .i64 n] (.bool (holdsD pa n B.ram.length)) W := fun W h => x_isRam mb rb (X.withB B) hram pa n (by omega) (by omega) (by omega) (by omega) W h
   have TM : ∀ W, CS 340 #[.int .i64 pa, .int .i64 n] (.bool (tmB pa n)) W := fun W => x_isTimer pa n (by omega) (by omega) W
   have PT : ∀ W, CS 342 #[.int .i64 pa, .int .i64 n] (.bool (ptB pa n)) W := fun W => x_isPort pa n (by omega) (by omega) W
   have HFC : Hid (∀ W, CS 274 #[.int .i64 2, .int .i64 k] (.int .i64 (xfauD 2 k)) W) := hide1 (fun W => x_faultCause 2 k W)
   rw [takes_or]
   obtain ⟨bH, hH⟩ := zn1 (holdsD pa n B.ram.length)
   obtain ⟨bT, hTT⟩ := zn1 (tmB pa n)
   obtain ⟨bP, hP⟩ := zn1 (ptB pa n)
   simp only [<- hH] at IR
   simp only [<- hTT] at TM
   simp only [<- hP] at PT
   rw [<- hH, <- hTT, <- hP]
   have HI := hide1 IR
   have HTM := hide1 TM
   have HPT := hide1 PT
   try dsimp only at TR
   clear IR TM PT hH hTT hP hX hXB hw
   cases bH
   case true =>
    exact zq242
   cases bT
   case true =>
    exact zq242
   cases bP
   case true =>
    exact zq242
   rw [if_neg (by simp)]
   rw [show rpV ((0, 2), B) va n k = .tuple #[.agg #[.int .i64 0, .int .i64 0], .agg #[.int .i64 (xfauD 2 k), .int .i64 va]] from rfl]
   go_enter func339, ntmps339
   go_wp2_with fail
   refine (TR.out _ hwa).mono ?_
   rintro o w1 ⟨rfl, hx1, hk1⟩
   have pc0w1 : w1.cell? ⟨w.heap.size, 0, none⟩ = some (.int .i64 0) := zq17
   have pc1w1 : w1.cell? ⟨w.heap.size, 1, none⟩ = some (.int .i64 0) := zq17
   have pfw1 : ∀ o, w1.frozen? ⟨w.heap.size, o, none⟩ = false := zq18
   have pzw1 : w.heap.size < w1.heap.size := zq15
   have rc0w1 : w1.cell? ⟨w.heap.size + 1, 0, none⟩ = some (.int .i64 0) := zq17
   have rc1w1 : w1.cell? ⟨w.heap.size + 1, 1, none⟩ = some (.int .i64 0) := zq17
   have rfw1 : ∀ o, w1.frozen? ⟨w.heap.size + 1, o, none⟩ = false := zq18
   have rzw1 : w.heap.size + 1 < w1.heap.size := zq15
   have hx2 : Hid (XAt ((w1.alloc (.cells #[.int .i64 (-1), .int .i64 0] 118)).alloc (.cells #[.int .i64 (-1), .int .i64 0] 118)) mb rb (X.withB B)) := zq16
   go_wp2_with (first | (go_at_call 82; refine (x_none _ _ _).mono ?_; rintro o wn ⟨rfl, rfl⟩) | (go_at_call 261; refine (HI.out _ hx2).mono ?_; rintro o w2 ⟨rfl, rfl⟩) | (go_at_call 340; refine (HTM.out _).mono ?_; rintro o w2 ⟨rfl, rfl⟩) | (go_at_call 342; refine (HPT.out _).mono ?_; rintro o w2 ⟨rfl, rfl⟩) | (go_at_call 274; refine (HFC.out _).mono ?_; rintro o w2 ⟨rfl, rfl⟩))
   refine bodyPost_ret (v := .tuple #[.agg #[.int .i64 0, .int .i64 0], .agg #[.int .i64 (xfauD 2 k), .int .i64 va]]) zq506 rfl ⟨rfl, hx1.more (G := [w.heap.size, w.heap.size + 1]) ?_ (by simp; omega) (by simp; omega), ?_⟩
   . exact zq239
   . exact zq240
 . rw [if_neg h0]
   simp only [trV_no ((pa, f), B) va k h0] at TR
   rw [show rpV ((0, f), B) va n k = .tuple #[.agg #[.int .i64 0, .int .i64 0], .agg #[.int .i64 (xfauD f k), .int .i64 va]] by unfold rpV; dsimp only; rw [if_neg h0]]
   try dsimp only at TR
   have hn := xfau_ne f k
   obtain ⟨c, hc⟩ := zn1 (xfauD f k)
   simp only [<- hc] at TR hn |-
   clear h0 hX hw hXB hc
   go_enter func339, ntmps339
   go_wp2_with fail
   refine (TR.out _ hwa).mono ?_
   rintro o w1 ⟨rfl, hx1, hk1⟩
   have pc0w1 : w1.cell? ⟨w.heap.size, 0, none⟩ = some (.int .i64 0) := zq17
   have pc1w1 : w1.cell? ⟨w.heap.size, 1, none⟩ = some (.int .i64 0) := zq17
   have pfw1 : ∀ o, w1.frozen? ⟨w.heap.size, o, none⟩ = false := zq18
   have pzw1 : w.heap.size < w1.heap.size := zq15
   have rc0w1 : w1.cell? ⟨w.heap.size + 1, 0, none⟩ = some (.int .i64 0) := zq17
   have rc1w1 : w1.cell? ⟨w.heap.size + 1, 1, none⟩ = some (.int .i64 0) := zq17
   have rfw1 : ∀ o, w1.frozen? ⟨w.heap.size + 1, o, none⟩ = false := zq18
   have rzw1 : w.heap.size + 1 < w1.heap.size := zq15
   have _hx2 : Hid (XAt ((w1.alloc (.cells #[.int .i64 c, .int .i64 va] 118)).alloc (.cells #[.int .i64 c, .int .i64 va] 118)) mb rb (X.withB B)) := zq16
   go_upto_region 3 with (first | (go_at_call 82; refine (x_none _ _ _).mono ?_; rintro o wn ⟨rfl, rfl⟩))
   go_region
   all_goals
    go_wp2_with fail
    refine bodyPost_ret (v := .tuple #[.agg #[.int .i64 0, .int .i64 0], .agg #[.int .i64 c, .int .i64 va]]) zq506 rfl ⟨rfl, hx1.more (G := [w.heap.size, w.heap.size + 1]) ?_ (by simp; omega) (by simp; omega), ?_⟩
    . exact zq239
    . exact zq240
theorem alloc_own (w : World) (a : Array Value) (T b k : Nat) (h : b = w.heap.size) : (w.alloc (.cells a T)).cell? ⟨b, k, none⟩ = a[k]? := by subst h; simp
theorem alloc_ownf (w : World) (a : Array Value) (T b k : Nat) (h : b = w.heap.size) : (w.alloc (.cells a T)).frozen? ⟨b, k, none⟩ = false := by subst h; simp
def spV (s : Spn) (k : Nat) : Value := if s.fault = 0 then .tuple #[.agg #[.int .i64 s.pa1, .int .i64 s.n1], .agg #[.int .i64 s.pa2, .int .i64 s.n2], .agg #[.int .i64 (-1), .int .i64 0]] else .tuple #[.agg #[.int .i64 0, .int .i64 0], .agg #[.int .i64 0, .int .i64 0], .agg #[.int .i64 (xfauD s.fault k), .int .i64 s.wh]]
def one1 (n va : Nat) (t : (Nat × Nat) × BusS) : Spn × BusS := if t.1.2 = 0 then (⟨t.1.1, n, 0, 0, 0, 0⟩, t.2) else (⟨0, 0, 0, 0, t.1.2, va⟩, t.2)
def two2 (pa a n next : Nat) (t : (Nat × Nat) × BusS) : Spn × BusS := if t.1.2 = 0 then (⟨pa, a, t.1.1, n - a, 0, 0⟩, t.2) else (⟨0, 0, 0, 0, t.1.2, next⟩, t.2)
def two1 (C : CsrS) (a n va k : Nat) (t : (Nat × Nat) × BusS) : Spn × BusS := if t.1.2 = 0 then two2 t.1.1 a n ((va + a) % 4294967296) (rpD t.2 C ((va + a) % 4294967296) (n - a) k) else (⟨0, 0, 0, 0, t.1.2, va⟩, t.2)
theorem reach_one (B : BusS) (C : CsrS) (va n k : Nat) (h : n <= 4096 - va % 4096) : reachD B C va n k = one1 n va (rpD B C va n k) := by
 have hr : roomD va n = n := zq6
 unfold reachD reach1 one1 rpD rpP
 rw [hr]
 obtain ⟨T, hT⟩ := zn1 (trD B C va k)
 rw [<- hT]
 obtain ⟨⟨pa, f⟩, B'⟩ := T
 dsimp only
 by_cases h0 : f = 0
 . subst h0
   rw [if_pos rfl, if_pos rfl]
   cases takesD (pa : Nat) (n : Nat) B'.ram.length
   . rfl
   . rw [if_pos rfl, if_pos rfl, if_neg (by omega)]; rfl
 . rw [if_neg h0, if_neg h0, if_neg h0]
theorem reach_two (B : BusS) (C : CsrS) (va n k a : Nat) (ha : a = 4096 - va % 4096) (h : a < n) : reachD B C va n k = two1 C a n va k (rpD B C va a k) := by
 have hr : roomD va n = a := zq6
 unfold reachD reach1 two1 rpD rpP
 rw [hr]
 obtain ⟨T, hT⟩ := zn1 (trD B C va k)
 rw [<- hT]
 obtain ⟨⟨pa, f⟩, B'⟩ := T
 dsimp only
 by_cases h0 : f = 0
 . subst h0
   rw [if_pos rfl, if_pos rfl]
   cases takesD (pa : Nat) (a : Nat) B'.ram.length
   . rfl
   . rw [if_pos rfl, if_pos rfl, if_pos h, if_pos rfl]
     dsimp only
     unfold reach2 two2
     obtain ⟨T, hT⟩ := zn1 (trD B' C ((va + a) % 4294967296) k)
     rw [<- hT]
     obtain ⟨⟨pb, g⟩, B2⟩ := T
     dsimp only
     by_cases h1 : g = 0
     . subst h1
       rw [if_pos rfl, if_pos rfl]
       cases takesD (pb : Nat) ((n - a : Nat) : Int) B2.ram.length
       . rfl
       . rfl
     . rw [if_neg h1, if_neg h1, if_neg h1]
 . rw [if_neg h0, if_neg h0, if_neg h0]
theorem rpV_ok (t : (Nat × Nat) × BusS) (va n k : Nat) (h : t.1.2 = 0) : rpV t va n k = .tuple #[.agg #[.int .i64 t.1.1, .int .i64 n], .agg #[.int .i64 (-1), .int .i64 0]] := by unfold rpV; rw [if_pos h]
theorem rpV_no (t : (Nat × Nat) × BusS) (va n k : Nat) (h : ¬ t.1.2 = 0) : rpV t va n k = .tuple #[.agg #[.int .i64 0, .int .i64 0], .agg #[.int .i64 (xfauD t.1.2 k), .int .i64 va]] := by unfold rpV; rw [if_neg h]
theorem spV_no (f va k : Nat) (h : ¬ f = 0) : spV ⟨0, 0, 0, 0, f, va⟩ k = .tuple #[.agg #[.int .i64 0, .int .i64 0], .agg #[.int .i64 0, .int .i64 0], .agg #[.int .i64 (xfauD f k), .int .i64 va]] := by unfold spV; dsimp only; rw [if_neg h]
theorem x_reach_one (mb rb X) (hX : XOk X) (va n k : Nat) (hva : va < 4294967296) (hn1 : 1 <= n) (hn4 : n <= 4) (hkk : k = 0 \/ k = 1 \/ k = 2) (hr : n <= 4096 - va % 4096) (w) (hw : Hid (XAt w mb rb X)) :
 CX 267 #[.pointer (some ⟨mb, 0, none⟩), .int .i64 va, .int .i64 n, .int .i64 k] (spV (reachD X.b (xC X) va n k).1 k) [rb] mb rb (X.withB (reachD X.b (xC X) va n k).2) w := by
 have hlt := hw.out.lt
 have hrlt := hw.out.rlt
 have hwa : Hid (XAt (((w.alloc (.cells #[.int .i64 0, .int .i64 0] 231)).alloc (.cells #[.int .i64 0, .int .i64 0] 231)).alloc (.cells #[.int .i64 0, .int .i64 0] 118)) mb rb X) := hide1 (((hw.out.alloc _).alloc _).alloc _)
 have RP := hide1 (fun W h => x_reachPortion mb rb X hX va n k hva hn1 hn4 hkk W h)
 rw [reach_one X.b (xC X) va n k hr]
 obtain ⟨T, hT⟩ := zn1 (rpD X.b (xC X) va n k)
 simp only [<- hT] at RP
 rw [<- hT]
 clear hT
 obtain ⟨⟨pa, f⟩, B⟩ := T
 unfold one1
 dsimp only at RP |-
 have q : decide ((n : Int) <= 4096 - (va : Int) % 4096) = true := by simp; omega
 by_cases h0 : f = 0
 . subst h0
   rw [if_pos rfl]
   simp only [rpV_ok ((pa, 0), B) va n k rfl] at RP
   rw [show spV ⟨pa, n, 0, 0, 0, 0⟩ k = .tuple #[.agg #[.int .i64 pa, .int .i64 n], .agg #[.int .i64 0, .int .i64 0], .agg #[.int .i64 (-1), .int .i64 0]] from rfl]
   clear hX hw hr
   go_enter func267, ntmps267
   go_wp2_with fail
   refine (RP.out _ hwa).mono ?_
   rintro o w1 ⟨rfl, hx1, hk1⟩
   obtain ⟨pc0w1, pc1w1, pfw1, pzw1, pzw11, pnw11, pzw12, pnw12, pzw13, pnw13, pzw14, pnw14⟩ : Zc2 w1 w.heap.size 0 0 := zq150
   obtain ⟨qc0w1, qc1w1, qfw1, qzw1, qzw11, qnw11, qzw12, qnw12, qzw13, qnw13, qzw14, qnw14⟩ : Zc2 w1 (w.heap.size + 1) 0 0 := zq151
   obtain ⟨rc0w1, rc1w1, rfw1, rzw1, rzw11, rnw11, rzw12, rnw12, rzw13, rnw13, rzw14, rnw14⟩ : Zc2 w1 (w.heap.size + 1 + 1) 0 0 := zq152
   go_upto_region 4 with fail
   go_region
   all_goals
    go_wp2_with fail
    refine bodyPost_ret (v := .tuple #[.agg #[.int .i64 pa, .int .i64 n], .agg #[.int .i64 0, .int .i64 0], .agg #[.int .i64 (-1), .int .i64 0]]) zq507 rfl ⟨rfl, hx1.more (G := [w.heap.size, w.heap.size + 1, w.heap.size + 1 + 1]) ?_ (by simp; omega) (by simp; omega), ?_⟩
    . exact zq239
    . exact zq240
 . rw [if_neg h0]
   simp only [rpV_no ((pa, f), B) va n k h0] at RP
   rw [spV_no f va k h0]
   clear hX hw hr h0
   go_enter func267, ntmps267
   go_wp2_with fail
   refine (RP.out _ hwa).mono ?_
   rintro o w1 ⟨rfl, hx1, hk1⟩
   obtain ⟨pc0w1, pc1w1, pfw1, pzw1, pzw11, pnw11, pzw12, pnw12, pzw13, pnw13, pzw14, pnw14⟩ : Zc2 w1 w.heap.size 0 0 := zq150
   obtain ⟨qc0w1, qc1w1, qfw1, qzw1, qzw11, qnw11, qzw12, qnw12, qzw13, qnw13, qzw14, qnw14⟩ : Zc2 w1 (w.heap.size + 1) 0 0 := zq151
   obtain ⟨rc0w1, rc1w1, rfw1, rzw1, rzw11, rnw11, rzw12, rnw12, rzw13, rnw13, rzw14, rnw14⟩ : Zc2 w1 (w.heap.size + 1 + 1) 0 0 := zq152
   go_upto_region 4 with fail
   go_region
   all_goals
    go_wp2_with fail
    refine bodyPost_ret (v := .tuple #[.agg #[.int .i64 0, .int .i64 0], .agg #[.int .i64 0, .int .i64 0], .agg #[.int .i64 (xfauD f k), .int .i64 va]]) zq507 rfl ⟨rfl, hx1.more (G := [w.heap.size, w.heap.size + 1, w.heap.size + 1 + 1]) ?_ (by simp; omega) (by simp; omega), ?_⟩
    . exact zq239
    . exact zq240
theorem x_reach_two (mb rb X) (hX : XOk X) (va n k : Nat) (hva : va < 4294967296) (hn1 : 1 <= n) (hn4 : n <= 4) (hkk : k = 0 \/ k = 1 \/ k = 2) (hr : 4096 - va % 4096 < n) (w) (hw : Hid (XAt w mb rb X)) :
 CX 267 #[.pointer (some ⟨mb, 0, none⟩), .int .i64 va, .int .i64 n, .int .i64 k] (spV (reachD X.b (xC X) va n k).1 k) [rb] mb rb (X.withB (reachD X.b (xC X) va n k).2) w := by
 have hlt := hw.out.lt
 have hrlt := hw.out.rlt
 have hwa : Hid (XAt (((w.alloc (.cells #[.int .i64 0, .int .i64 0] 231)).alloc (.cells #[.int .i64 0, .int .i64 0] 231)).alloc (.cells #[.int .i64 0, .int .i64 0] 118)) mb rb X) := hide1 (((hw.out.alloc _).alloc _).alloc _)
 obtain ⟨a, ha⟩ := zn1 (4096 - va % 4096)
 rw [<- ha] at hr
 have ha1 : 1 <= a := by omega
 have RP := hide1 (fun W h => x_reachPortion mb rb X hX va a k hva ha1 (by omega) hkk W h)
 rw [reach_two X.b (xC X) va n k a ha hr]
 have hok := rp_ok hX.b (xC X) va a k
 obtain ⟨T, hT⟩ := zn1 (rpD X.b (xC X) va a k)
 simp only [<- hT] at RP
 rw [<- hT] at hok |-
 clear hT
 obtain ⟨⟨pa, f⟩, B⟩ := T
 have hXB := XS.okB hX hok
 unfold two1
 dsimp only at RP hok hXB |-
 have ea : 4096 - (va : Int) % 4096 = (a : Int) := by omega
 have q : decide ((n : Int) <= (a : Int)) = false := by simp; omega
 have q' : decide (n <= a) = false := by simp; omega
 by_cases h0 : f = 0
 . subst h0
   rw [if_pos rfl]
   simp only [rpV_ok ((pa, 0), B) va a k rfl] at RP
   have RQ := hide1 (fun W h => x_reachPortion mb rb (X.withB B) hXB ((va + a) % 4294967296) (n - a) k (by omega) (by omega) (by omega) hkk W h)
   have eC : xC (X.withB B) = xC X := rfl
   have eb : (X.withB B).b = B := rfl
   simp only [eC, eb] at RQ
   have WD : Hid (∀ W, CS 135 #[.int .i64 ((va : Int) + (a : Int))] (.int .i64 ((va + a) % 4294967296 : Nat)) W) := hide1 (fun W => by have := x_word ((va : Int) + (a : Int)) W; rw [show wordN ((va : Int) + (a : Int)) = (va + a) % 4294967296 by unfold wordN; omega] at this; exact this)
   have en : (n : Int) - (a : Int) = ((n - a : Nat) : Int) := by omega
   obtain ⟨nx, hnx⟩ := zn1 ((va + a) % 4294967296)
   obtain ⟨d, hd⟩ := zn1 (n - a)
   have hdl : d <= 4 := by omega
   simp only [<- hnx, <- hd] at RQ WD en |-
   obtain ⟨T, hT⟩ := zn1 (rpD B (xC X) nx d k)
   simp only [<- hT] at RQ
   rw [<- hT]
   clear hT hnx
   obtain ⟨⟨pb, g⟩, B2⟩ := T
   have hBB : (X.withB B).withB B2 = X.withB B2 := rfl
   simp only [hBB] at RQ
   unfold two2
   dsimp only
   rw [<- hd]
   by_cases h1 : g = 0
   . subst h1
     rw [if_pos rfl]
     simp only [rpV_ok ((pb, 0), B2) nx d k rfl] at RQ
     rw [show spV ⟨pa, a, pb, d, 0, 0⟩ k = .tuple #[.agg #[.int .i64 pa, .int .i64 a], .agg #[.int .i64 pb, .int .i64 d], .agg #[.int .i64 (-1), .int .i64 0]] from rfl]
     clear hX hw hr hXB hok ha hd hn1 hn4 ha1
     go_enter func267, ntmps267
     go_wp2_with fail
     refine (RP.out _ hwa).mono ?_
     rintro o w1 ⟨rfl, hx1, hk1⟩
     obtain ⟨pc0w1, pc1w1, pfw1, pzw1, pzw11, pnw11, pzw12, pnw12, pzw13, pnw13, pzw14, pnw14⟩ : Zc2 w1 w.heap.size 0 0 := zq150
     obtain ⟨qc0w1, qc1w1, qfw1, qzw1, qzw11, qnw11, qzw12, qnw12, qzw13, qnw13, qzw14, qnw14⟩ : Zc2 w1 (w.heap.size + 1) 0 0 := zq151
     obtain ⟨rc0w1, rc1w1, rfw1, rzw1, rzw11, rnw11, rzw12, rnw12, rzw13, rnw13, rzw14, rnw14⟩ : Zc2 w1 (w.heap.size + 1 + 1) 0 0 := zq152
     have hx2 : Hid (XAt (((w1.alloc (.cells #[.int .i64 pa, .int .i64 a] 231)).alloc (.cells #[.int .i64 (-1), .int .i64 0] 118)).alloc (.cells #[.int .i64 (-1), .int .i64 0] 118)) mb rb (X.withB B)) := hide1 (((hx1.alloc _).alloc _).alloc _)
     go_wp2_with (first | (go_at_call 82; refine (x_none _ _ _).mono ?_; rintro o wn ⟨rfl, rfl⟩) | (go_at_call 135; refine (WD.out _).mono ?_; rintro o w2 ⟨rfl, rfl⟩))
     refine (RQ.out _ hx2).mono ?_
     rintro o w2 ⟨rfl, hx3, hk2⟩
     obtain ⟨pc0w2, pc1w2, pfw2, pzw2, pzw21, pnw21, pzw22, pnw22, pzw23, pnw23, pzw24, pnw24⟩ : Zc2 w2 w.heap.size 0 0 := zq153
     obtain ⟨qc0w2, qc1w2, qfw2, qzw2, qzw21, qnw21, qzw22, qnw22, qzw23, qnw23, qzw24, qnw24⟩ : Zc2 w2 (w.heap.size + 1) 0 0 := zq153
     obtain ⟨rc0w2, rc1w2, rfw2, rzw2, rzw21, rnw21, rzw22, rnw22, rzw23, rnw23, rzw24, rnw24⟩ : Zc2 w2 (w.heap.size + 1 + 1) 0 0 := zq153
     obtain ⟨sc0w2, sc1w2, sfw2, szw2, szw21, snw21, szw22, snw22, szw23, snw23, szw24, snw24⟩ : Zc2 w2 w1.heap.size pa a := zq154
     obtain ⟨mc0w2, mc1w2, mfw2, mzw2, mzw21, mnw21, mzw22, mnw22, mzw23, mnw23, mzw24, mnw24⟩ : Zc2 w2 (w1.heap.size + 1) (-1) 0 := zq155
     go_upto_region 11 with (first | (go_at_call 82; refine (x_none _ _ _).mono ?_; rintro o wn ⟨rfl, rfl⟩))
     go_region
     all_goals
      go_wp2_with fail
      refine bodyPost_ret (v := .tuple #[.agg #[.int .i64 pa, .int .i64 a], .agg #[.int .i64 pb, .int .i64 d], .agg #[.int .i64 (-1), .int .i64 0]]) zq508 rfl ⟨rfl, hx3.more (G := [w.heap.size, w.heap.size + 1, w.heap.size + 1 + 1, w1.heap.size + 1]) ?_ (by simp; omega) (by simp; omega), ?_⟩
      . exact zq239
      . exact zq241
   . rw [if_neg h1]
     simp only [rpV_no ((pb, g), B2) nx d k h1] at RQ
     rw [spV_no g nx k h1]
     have hn := xfau_ne g k
     obtain ⟨c, hc⟩ := zn1 (xfauD g k)
     have hc' : xfauD g k = c := hc.symm
     try dsimp only at RQ
     simp only [hc'] at RQ
     rw [<- hc] at hn |-
     clear hX hw hr hXB hok ha hd hn1 hn4 ha1 h1 hc hc'
     go_enter func267, ntmps267
     go_wp2_with fail
     refine (RP.out _ hwa).mono ?_
     rintro o w1 ⟨rfl, hx1, hk1⟩
     obtain ⟨pc0w1, pc1w1, pfw1, pzw1, pzw11, pnw11, pzw12, pnw12, pzw13, pnw13, pzw14, pnw14⟩ : Zc2 w1 w.heap.size 0 0 := zq150
     obtain ⟨qc0w1, qc1w1, qfw1, qzw1, qzw11, qnw11, qzw12, qnw12, qzw13, qnw13, qzw14, qnw14⟩ : Zc2 w1 (w.heap.size + 1) 0 0 := zq151
     obtain ⟨rc0w1, rc1w1, rfw1, rzw1, rzw11, rnw11, rzw12, rnw12, rzw13, rnw13, rzw14, rnw14⟩ : Zc2 w1 (w.heap.size + 1 + 1) 0 0 := zq152
     have hx2 : Hid (XAt (((w1.alloc (.cells #[.int .i64 pa, .int .i64 a] 231)).alloc (.cells #[.int .i64 (-1), .int .i64 0] 118)).alloc (.cells #[.int .i64 (-1), .int .i64 0] 118)) mb rb (X.withB B)) := hide1 (((hx1.alloc _).alloc _).alloc _)
     go_wp2_with (first | (go_at_call 82; refine (x_none _ _ _).mono ?_; rintro o wn ⟨rfl, rfl⟩) | (go_at_call 135; refine (WD.out _).mono ?_; rintro o w2 ⟨rfl, rfl⟩))
     refine (RQ.out _ hx2).mono ?_
     rintro o w2 ⟨rfl, hx3, hk2⟩
     obtain ⟨pc0w2, pc1w2, pfw2, pzw2, pzw21, pnw21, pzw22, pnw22, pzw23, pnw23, pzw24, pnw24⟩ : Zc2 w2 w.heap.size 0 0 := zq153
     obtain ⟨qc0w2, qc1w2, qfw2, qzw2, qzw21, qnw21, qzw22, qnw22, qzw23, qnw23, qzw24, qnw24⟩ : Zc2 w2 (w.heap.size + 1) 0 0 := zq153
     obtain ⟨rc0w2, rc1w2, rfw2, rzw2, rzw21, rnw21, rzw22, rnw22, rzw23, rnw23, rzw24, rnw24⟩ : Zc2 w2 (w.heap.size + 1 + 1) 0 0 := zq153
     obtain ⟨sc0w2, sc1w2, sfw2, szw2, szw21, snw21, szw22, snw22, szw23, snw23, szw24, snw24⟩ : Zc2 w2 w1.heap.size pa a := zq154
     obtain ⟨mc0w2, mc1w2, mfw2, mzw2, mzw21, mnw21, mzw22, mnw22, mzw23, mnw23, mzw24, mnw24⟩ : Zc2 w2 (w1.heap.size + 1) (-1) 0 := zq155
     go_upto_region 10 with (first | (go_at_call 82; refine (x_none _ _ _).mono ?_; rintro o wn ⟨rfl, rfl⟩))
     go_region
     all_goals
      go_wp2_with fail
      refine bodyPost_ret (v := .tuple #[.agg #[.int .i64 0, .int .i64 0], .agg #[.int .i64 0, .int .i64 0], .agg #[.int .i64 c, .int .i64 nx]]) zq508 rfl ⟨rfl, hx3.more (G := [w.heap.size, w.heap.size + 1, w.heap.size + 1 + 1, w1.heap.size + 1]) ?_ (by simp; omega) (by simp; omega), ?_⟩
      . exact zq239
      . exact zq241
 . rw [if_neg h0]
   simp only [rpV_no ((pa, f), B) va a k h0] at RP
   rw [spV_no f va k h0]
   have hn := xfau_ne f k
   obtain ⟨c, hc⟩ := zn1 (xfauD f k)
   have hc' : xfauD f k = c := hc.symm
   try dsimp only at RP
   simp only [hc'] at RP
   rw [<- hc] at hn |-
   clear hX hw hr hXB hok ha hn1 hn4 ha1 h0 hc hc'
   go_enter func267, ntmps267
   go_wp2_with fail
   refine (RP.out _ hwa).mono ?_
   rintro o w1 ⟨rfl, hx1, hk1⟩
   obtain ⟨pc0w1, pc1w1, pfw1, pzw1, pzw11, pnw11, pzw12, pnw12, pzw13, pnw13, pzw14, pnw14⟩ : Zc2 w1 w.heap.size 0 0 := zq150
   obtain ⟨qc0w1, qc1w1, qfw1, qzw1, qzw11, qnw11, qzw12, qnw12, qzw13, qnw13, qzw14, qnw14⟩ : Zc2 w1 (w.heap.size + 1) 0 0 := zq151
   obtain ⟨rc0w1, rc1w1, rfw1, rzw1, rzw11, rnw11, rzw12, rnw12, rzw13, rnw13, rzw14, rnw14⟩ : Zc2 w1 (w.heap.size + 1 + 1) 0 0 := zq152
   go_upto_region 7 with (first | (go_at_call 82; refine (x_none _ _ _).mono ?_; rintro o wn ⟨rfl, rfl⟩))
   go_region
   all_goals
    go_wp2_with fail
    refine bodyPost_ret (v := .tuple #[.agg #[.int .i64 0, .int .i64 0], .agg #[.int .i64 0, .int .i64 0], .agg #[.int .i64 c, .int .i64 va]]) zq507 rfl ⟨rfl, hx1.more (G := [w.heap.size, w.heap.size + 1, w.heap.size + 1 + 1]) ?_ (by simp; omega) (by simp; omega), ?_⟩
    . exact zq239
    . exact zq240
theorem x_reach (mb rb X) (hX : XOk X) (va n k : Nat) (hva : va < 4294967296) (hn1 : 1 <= n) (hn4 : n <= 4) (hkk : k = 0 \/ k = 1 \/ k = 2) (w) (hw : Hid (XAt w mb rb X)) :
 CX 267 #[.pointer (some ⟨mb, 0, none⟩), .int .i64 va, .int .i64 n, .int .i64 k] (spV (reachD X.b (xC X) va n k).1 k) [rb] mb rb (X.withB (reachD X.b (xC X) va n k).2) w := by
 by_cases hr : n <= 4096 - va % 4096
 . exact x_reach_one mb rb X hX va n k hva hn1 hn4 hkk hr w hw
 . exact x_reach_two mb rb X hX va n k hva hn1 hn4 hkk (by omega) w hw
theorem Kept.boxI {W w1 : World} (hb : Kept [] W w1) (b : Nat) : (∀ o, b < W.heap.size -> w1.cell? ⟨b, o, none⟩ = W.cell? ⟨b, o, none⟩) /\ (∀ o, b < W.heap.size -> w1.frozen? ⟨b, o, none⟩ = W.frozen? ⟨b, o, none⟩) :=
 ⟨fun o h => hb.cell (p := ⟨b, o, none⟩) h (by simp), fun o h => hb.frozen (p := ⟨b, o, none⟩) h (by simp)⟩
theorem tm_holds {pa n : Int} {L : Nat} (h : tmB pa n = true) : holdsD pa n L = false /\ takesD pa n L = true := by
 have hh : holdsD pa n L = false := by unfold tmB at h; unfold holdsD; simp at h |-; omega
 exact ⟨hh, by rw [takes_or, h]; simp⟩
theorem pt_holds {pa n : Int} {L : Nat} (h : ptB pa n = true) : holdsD pa n L = false /\ takesD pa n L = true /\ tmB pa n = false := by
 have hh : holdsD pa n L = false := by unfold ptB at h; unfold holdsD; simp at h |-; omega
 have ht : tmB pa n = false := by unfold ptB at h; unfold tmB; simp at h |-; omega
 exact ⟨hh, by rw [takes_or, h]; simp, ht⟩
theorem read_tm (B : BusS) (pa n : Int) (h : tmB pa n = true) : readD B pa n = (trdD B (pa - 33554432), B) := by
 obtain ⟨h1, h2⟩ := tm_holds (L := B.ram.length) h
 unfold readD
 exact zq243
theorem read_pt (B : BusS) (pa n : Int) (h : ptB pa n = true) : readD B pa n = prdB B (pa - 268435456) := by
 obtain ⟨h1, h2, -⟩ := pt_holds (L := B.ram.length) h
 unfold readD
 rw [h1, h2, if_neg (by simp), if_pos rfl]
 unfold ptB at h
 exact zq244
theorem XAt.setO {w : World} {mb rb : Nat} {X : XS} {p : Addr} (h : XAt w mb rb X) (h1 : mb ≠ p.block) (h2 : rb ≠ p.block) (v : Value) : XAt (w.setCell p v) mb rb X := h.more (G := [p.block]) ((Kept.refl _ _).setCell (.inl (by simp)) _) (by simpa using h1) (by simpa using h2)
theorem Kept.setM {mb : Nat} {G : List Nat} {a w : World} (h : Kept (mb :: G) a w) (k : Nat) (v : Value) : Kept (mb :: G) a (w.setCell ⟨mb, k, none⟩ v) := h.setCell (.inl (by simp)) v
structure SameBut5 (A B : BusS) : Prop where
 ram : B.ram = A.ram
 msip : B.msip = A.msip
 time : B.time = A.time
 timeh : B.timeh = A.timeh
 cmp : B.cmp = A.cmp
 cmph : B.cmph = A.cmph
theorem XAt.setPort {w mb rb X} (h : XAt w mb rb X) (B : BusS) (hs : SameBut5 X.b B) : XAt (((((w.setCell ⟨mb, 66, none⟩ (.int .i64 B.enable)).setCell ⟨mb, 67, none⟩ (.int .i64 B.scratch)).setCell ⟨mb, 68, none⟩ (.bool B.lost)).setCell ⟨mb, 69, none⟩ (.string B.rx)).setCell ⟨mb, 70, none⟩ (.string B.tx)) mb rb (X.withB B) := by
 have e : X.withB B = { X with b := { X.b with enable := B.enable, scratch := B.scratch, lost := B.lost, rx := B.rx, tx := B.tx } } := by
  obtain ⟨a, b, c, d, e, f⟩ := hs
  unfold XS.withB
  cases X with | mk b' c x pc mo wa re rs => cases b' with | mk a1 a2 a3 a4 a5 a6 a7 a8 a9 a10 a11 => cases B with | mk b1 b2 b3 b4 b5 b6 b7 b8 b9 b10 b11 => simp_all
 rw [e]
 exact ((((h.set (X' := { X with b := { X.b with enable := B.enable } }) 66 _ rfl rfl (by omega)).set (X' := { X with b := { X.b with enable := B.enable, scratch := B.scratch } }) 67 _ rfl rfl (by omega)).set (X' := { X with b := { X.b with enable := B.enable, scratch := B.scratch, lost := B.lost } }) 68 _ rfl rfl (by omega)).set (X' := { X with b := { X.b with enable := B.enable, scratch := B.scratch, lost := B.lost, rx := B.rx } }) 69 _ rfl rfl (by omega)).set 70 _ rfl rfl (by omega)
structure SameBut6 (A B : BusS) : Prop where
 ram : B.ram = A.ram
 enable : B.enable = A.enable
 scratch : B.scratch = A.scratch
 lost : B.lost = A.lost
 rx : B.rx = A.rx
 tx : B.tx = A.tx
theorem XAt.setTimer {w mb rb X} (h : XAt w mb rb X) (B : BusS) (hs : SameBut6 X.b B) : XAt (((((w.setCell ⟨mb, 61, none⟩ (.int .i64 B.msip)).setCell ⟨mb, 62, none⟩ (.int .i64 B.time)).setCell ⟨mb, 63, none⟩ (.int .i64 B.timeh)).setCell ⟨mb, 64, none⟩ (.int .i64 B.cmp)).setCell ⟨mb, 65, none⟩ (.int .i64 B.cmph)) mb rb (X.withB B) := by
 have e : X.withB B = { X with b := { X.b with msip := B.msip, time := B.time, timeh := B.timeh, cmp := B.cmp, cmph := B.cmph } } := by
  obtain ⟨a, b, c, d, e, f⟩ := hs
  unfold XS.withB
  cases X with | mk b' c x pc mo wa re rs => cases b' with | mk a1 a2 a3 a4 a5 a6 a7 a8 a9 a10 a11 => cases B with | mk b1 b2 b3 b4 b5 b6 b7 b8 b9 b10 b11 => simp_all
 rw [e]
 exact ((((h.set (X' := { X with b := { X.b with msip := B.msip } }) 61 _ rfl rfl (by omega)).set (X' := { X with b := { X.b with msip := B.msip, time := B.time } }) 62 _ rfl rfl (by omega)).set (X' := { X with b := { X.b with msip := B.msip, time := B.time, timeh := B.timeh } }) 63 _ rfl rfl (by omega)).set (X' := { X with b := { X.b with msip := B.msip, time := B.time, timeh := B.timeh, cmp := B.cmp } }) 64 _ rfl rfl (by omega)).set 65 _ rfl rfl (by omega)
def porV (pa n : Nat) : Value := .agg #[.int .i64 pa, .int .i64 n]
theorem x_read_0 (mb pa : Nat) (w : World) :
 CK 269 #[.pointer (some ⟨mb, 0, none⟩), porV pa 0] (.int .i64 0) w := by
 unfold porV
 go_enter func269, ntmps269
 exact zq245
theorem x_read_t (mb rb : Nat) (X : XS) (pa n : Nat) (hpa : pa < 17184063488) (hn : 1 <= n) (ht : tmB pa n = true) (w) (hw : Hid (XAt w mb rb X)) :
 CK 269 #[.pointer (some ⟨mb, 0, none⟩), porV pa n] (.int .i64 (readD X.b pa n).1) w := by
 have hlt := hw.out.lt
 have hlt' : ¬ mb = w.heap.size := by omega
 have c61 := hw.out.c61
 have c62 := hw.out.c62
 have c63 := hw.out.c63
 have c64 := hw.out.c64
 have c65 := hw.out.c65
 rw [read_tm X.b pa n ht]
 have TM : Hid (∀ W, CS 340 #[.int .i64 pa, .int .i64 n] (.bool true) W) := zq35
 have wr : IntKind.i64.wrap ((pa : Int) - 33554432) = (pa : Int) - 33554432 := zq9
 have RD := fun W => hide1 (x_tread X.b ((pa : Int) - 33554432) W)
 obtain ⟨v, hv⟩ := zn1 (trdD X.b ((pa : Int) - 33554432))
 simp only [<- hv] at RD |-
 have q : ((n : Int) == 0) = false := by simp; omega
 have q' : (n == 0) = false := by simp; omega
 unfold tmrA at RD
 clear hv ht hw
 unfold porV
 go_enter func269, ntmps269
 go_upto_region 4 with (go_at_call 340; refine (TM.out _).mono ?_; rintro o w2 ⟨rfl, rfl⟩)
 go_region_with (go_at_call 341; refine (RD _).out.mono ?_; rintro o w1 ⟨rfl, hk1⟩)
 all_goals
  go_wp2_with fail
  go_ret
  refine ⟨rfl, ?_⟩
  repeat (first | (with_reducible exact Kept.refl _ _) | (with_reducible refine Kept.setCell ?_ (Or.inr zq492) _) | (with_reducible refine Kept.drew ?_) | (with_reducible refine Kept.alloc ?_ _) | (with_reducible refine Kept.trans ?_ (hk1.mono (by simp))))
theorem x_read_p (mb rb : Nat) (X : XS) (hE : X.b.enable < 8) (pa n : Nat) (hpa : pa < 17184063488) (hn : 1 <= n) (ht : ptB pa n = true) (w) (hw : Hid (XAt w mb rb X)) :
 CX 269 #[.pointer (some ⟨mb, 0, none⟩), porV pa n] (.int .i64 (readD X.b pa n).1) [mb] mb rb (X.withB (readD X.b pa n).2) w := by
 have hlt := hw.out.lt
 have hlt' : ¬ mb = w.heap.size := by omega
 have c66 := hw.out.c66
 have c67 := hw.out.c67
 have c68 := hw.out.c68
 have c69 := hw.out.c69
 have c70 := hw.out.c70
 have hfr := hw.out.fro
 have hrlt := hw.out.rlt
 have htm := (pt_holds (L := 0) ht).2.2
 rw [read_pt X.b pa n ht]
 have TM : Hid (∀ W, CS 340 #[.int .i64 pa, .int .i64 n] (.bool false) W) := zq36
 have PT : Hid (∀ W, CS 342 #[.int .i64 pa, .int .i64 n] (.bool true) W) := zq37
 have wr : IntKind.i64.wrap ((pa : Int) - 268435456) = (pa : Int) - 268435456 := zq9
 have RD := fun W => hide1 (x_pread X.b hE ((pa : Int) - 268435456) W)
 have hbr : SameBut5 X.b (prdB X.b ((pa : Int) - 268435456)).2 := by
  unfold prdB
  repeat' split
  all_goals exact ⟨rfl, rfl, rfl, rfl, rfl, rfl⟩
 obtain ⟨T, hT⟩ := zn1 (prdB X.b ((pa : Int) - 268435456))
 simp only [<- hT] at RD hbr |-
 obtain ⟨v, B⟩ := T
 dsimp only at RD hbr |-
 have q : ((n : Int) == 0) = false := by simp; omega
 have q' : (n == 0) = false := by simp; omega
 unfold prtA at RD
 have HBR := hide1 hbr
 clear hT ht htm hbr
 unfold porV
 go_enter func269, ntmps269
 go_upto_region 6 with (first | (go_at_call 340; refine (TM.out _).mono ?_; rintro o w2 ⟨rfl, rfl⟩) | (go_at_call 342; refine (PT.out _).mono ?_; rintro o w2 ⟨rfl, rfl⟩))
 go_region_with (go_at_call 343; refine (RD _).out.mono ?_; rintro o w1 ⟨rfl, hk1⟩; obtain ⟨k1, g1⟩ := hk1.boxI (w.heap.size + 1))
 all_goals
  have hx1 : XAt w1 mb rb X := zq38
  have d66 := hx1.c66
  have d67 := hx1.c67
  have d68 := hx1.c68
  have d69 := hx1.c69
  have d70 := hx1.c70
  have hfr1 := hx1.fro
  have hlt1 := hx1.lt
  have hlt2 : mb < w1.heap.size + 1 := by omega
  have hne1 : ¬ mb = w1.heap.size := by omega
  have hne2 : ¬ mb = w.heap.size + 1 := by omega
  go_wp2_with fail
  go_ret
  refine ⟨rfl, ?_, ?_⟩
  . repeat (first | (with_reducible exact hx1) | (with_reducible refine XAt.alloc ?_ _) | (with_reducible refine XAt.drew ?_) | (with_reducible refine XAt.setPort ?_ B HBR.out) | (with_reducible refine XAt.setO ?_ zq492 zq492 _))
  . exact zq246
theorem x_read_r (mb rb : Nat) (X : XS) (hram : X.b.ram.length <= 65536) (pa n : Nat) (hpa : pa < 17184063488) (hn : 1 <= n) (hn4 : n <= 4) (hh : holdsD pa n X.b.ram.length = true) (w) (hw : Hid (XAt w mb rb X)) :
 CK 269 #[.pointer (some ⟨mb, 0, none⟩), porV pa n] (.int .i64 (readD X.b pa n).1) w := by
 have hlt := hw.out.lt
 have hlt' : ¬ mb = w.heap.size := by omega
 have ht : tmB pa n = false := by
  cases h : tmB pa n with
  | false => rfl
  | true => rw [(tm_holds (L := X.b.ram.length) h).1] at hh; cases hh
 have hp : ptB pa n = false := by
  cases h : ptB pa n with
  | false => rfl
  | true => rw [(pt_holds (L := X.b.ram.length) h).1] at hh; cases hh
 have er : readD X.b pa n = (rdRam X.b (((pa : Int) - 2147483648).toNat) n, X.b) := by unfold readD; rw [if_pos hh]; simp
 rw [er]
 have hr : 2147483648 <= pa /\ pa - 2147483648 + n <= X.b.ram.length := by
  have h := hh
  unfold holdsD at h; simp at h; omega
 obtain ⟨p, hp2⟩ := zn1 (((pa : Int) - 2147483648).toNat)
 rw [<- hp2]
 have TM : Hid (∀ W, CS 340 #[.int .i64 pa, .int .i64 n] (.bool false) W) := zq39
 have PT : Hid (∀ W, CS 342 #[.int .i64 pa, .int .i64 n] (.bool false) W) := zq40
 have RN := hide1 (fun W h => x_ramNumber_yes mb rb X hram pa p n (by omega) hn hn4 (by omega) W h)
 have hwa : Hid (XAt (w.alloc (.cells #[.int .i64 pa, .int .i64 n] 231)) mb rb X) := zq10
 obtain ⟨v, hv⟩ := zn1 (rdRam X.b p n)
 simp only [<- hv] at RN |-
 have q : ((n : Int) == 0) = false := by simp; omega
 have q' : (n == 0) = false := by simp; omega
 clear hv ht hp hp2 hr er hh
 unfold porV
 go_enter func269, ntmps269
 go_wp2_with (first | (go_at_call 340; refine (TM.out _).mono ?_; rintro o w2 ⟨rfl, rfl⟩) | (go_at_call 342; refine (PT.out _).mono ?_; rintro o w2 ⟨rfl, rfl⟩) | (go_at_call 262; refine (RN.out _ hwa).mono ?_; rintro o w2 ⟨rfl, rfl⟩))
 exact zq247
theorem x_read (mb rb : Nat) (X : XS) (hB : BusOk X.b) (pa n : Nat) (hpa : pa < 17184063488) (hn : 1 <= n) (hn4 : n <= 4) (ht : takesD pa n X.b.ram.length = true) (w) (hw : Hid (XAt w mb rb X)) :
 CX 269 #[.pointer (some ⟨mb, 0, none⟩), porV pa n] (.int .i64 (readD X.b pa n).1) [mb, rb] mb rb (X.withB (readD X.b pa n).2) w := by
 rw [takes_or] at ht
 cases hh : holdsD pa n X.b.ram.length with
 | true =>
  have er : (readD X.b pa n).2 = X.b := by unfold readD; rw [if_pos hh]
  rw [er]
  refine (x_read_r mb rb X hB.ram pa n hpa hn hn4 hh w hw).mono ?_
  rintro o w1 ⟨rfl, hk⟩
  exact ⟨rfl, hw.out.kept hk, hk.mono (by simp)⟩
 | false =>
  cases htm : tmB pa n with
  | true =>
   have er : (readD X.b pa n).2 = X.b := by rw [read_tm X.b pa n htm]
   rw [er]
   refine (x_read_t mb rb X pa n hpa hn htm w hw).mono ?_
   rintro o w1 ⟨rfl, hk⟩
   exact ⟨rfl, hw.out.kept hk, hk.mono (by simp)⟩
  | false =>
   rw [hh, htm] at ht
   refine (x_read_p mb rb X hB.enable pa n hpa hn (by simpa using ht) w hw).mono ?_
   rintro o w1 ⟨rfl, hx, hk⟩
   exact ⟨rfl, hx, hk.mono (by simp)⟩
theorem leL_mod (v : Nat) : leL ((v % 256 : Nat) : Int) 1 = leL (v : Int) 1 := by
 simp [leL]
theorem write_tm (B : BusS) (pa n : Int) (v : Nat) (h : tmB pa n = true) : writeD B pa n v = twrB B (pa - 33554432) v := by
 obtain ⟨h1, h2⟩ := tm_holds (L := B.ram.length) h
 unfold writeD
 exact zq243
theorem write_pt (B : BusS) (pa n : Int) (v : Nat) (h : ptB pa n = true) : writeD B pa n v = pwrB B (pa - 268435456) (v % 256) := by
 obtain ⟨h1, h2, -⟩ := pt_holds (L := B.ram.length) h
 unfold writeD
 rw [h1, h2, if_neg (by simp), if_pos rfl]
 have e : v % 256 % 8 = v % 8 := by omega
 unfold ptB at h
 simp at h
 obtain ⟨_, h | h | h | h | h⟩ := h <;> subst h
 . show (if B.tx.size < 8 then { B with tx := B.tx ++ strOfNums (leL v 1) } else B) = (if B.tx.size < 8 then { B with tx := B.tx ++ strOfNums (leL ((v % 256 : Nat) : Int) 1) } else B)
   rw [leL_mod]
 . show { B with enable := v % 8 } = { B with enable := v % 256 % 8 }
   rw [e]
 . rfl
 . rfl
 . rfl
theorem x_write_0 (mb pa : Nat) (v : Int) (w : World) :
 CK 271 #[.pointer (some ⟨mb, 0, none⟩), porV pa 0, .int .i64 v] (.tuple #[]) w := by
 unfold porV
 go_enter func271, ntmps271
 go_wp2_with fail
 refine bodyPost_ret (results_none rfl _ _ _) rfl ?_
 exact zq248
theorem x_write_t (mb rb : Nat) (X : XS) (pa n v : Nat) (hpa : pa < 17184063488) (hn : 1 <= n) (hv : v < 4294967296) (ht : tmB pa n = true) (w) (hw : Hid (XAt w mb rb X)) :
 CX 271 #[.pointer (some ⟨mb, 0, none⟩), porV pa n, .int .i64 v] (.tuple #[]) [mb] mb rb (X.withB (writeD X.b pa n v)) w := by
 have hlt := hw.out.lt
 have hrlt := hw.out.rlt
 have hlt' : ¬ mb = w.heap.size := by omega
 have hfr := hw.out.fro
 have c61 := hw.out.c61
 have c62 := hw.out.c62
 have c63 := hw.out.c63
 have c64 := hw.out.c64
 have c65 := hw.out.c65
 rw [write_tm X.b pa n v ht]
 have TM : Hid (∀ W, CS 340 #[.int .i64 pa, .int .i64 n] (.bool true) W) := zq35
 have wr : IntKind.i64.wrap ((pa : Int) - 33554432) = (pa : Int) - 33554432 := zq9
 have RD := fun W => hide1 (x_twritten X.b ((pa : Int) - 33554432) v W)
 have WD : Hid (∀ W, CS 135 #[.int .i64 v] (.int .i64 v) W) := hide1 (fun W => by have := x_word v W; rw [wordN_of v hv] at this; exact this)
 have hbr : SameBut6 X.b (twrB X.b ((pa : Int) - 33554432) v) := by
  unfold twrB
  repeat' split
  all_goals exact ⟨rfl, rfl, rfl, rfl, rfl, rfl⟩
 obtain ⟨B, hB⟩ := zn1 (twrB X.b ((pa : Int) - 33554432) v)
 simp only [<- hB] at RD hbr |-
 have q : ((n : Int) == 0) = false := by simp; omega
 have q' : (n == 0) = false := by simp; omega
 unfold tmrA at RD
 have HBR := hide1 hbr
 clear hB ht hbr
 unfold porV
 go_enter func271, ntmps271
 go_upto_region 4 with (go_at_call 340; refine (TM.out _).mono ?_; rintro o w2 ⟨rfl, rfl⟩)
 go_region_with (first | (go_at_call 135; refine (WD.out _).mono ?_; rintro o w2 ⟨rfl, rfl⟩) | (go_at_call 344; refine (RD _).out.mono ?_; rintro o w1 ⟨rfl, hk1⟩; have hx1 : XAt w1 mb rb X := XAt.kept zq509 hk1; have d61 := hx1.c61; have d62 := hx1.c62; have d63 := hx1.c63; have d64 := hx1.c64; have d65 := hx1.c65; have hfr1 := hx1.fro))
 all_goals
  have hx1 : XAt w1 mb rb X := zq38
  go_wp2_with fail
  go_end0
  refine ⟨rfl, ?_, ?_⟩
  . repeat (first | (with_reducible exact hx1) | (with_reducible refine XAt.alloc ?_ _) | (with_reducible refine XAt.drew ?_) | (with_reducible refine XAt.setTimer ?_ B HBR.out))
  . exact zq246
theorem x_write_p (mb rb : Nat) (X : XS) (hx8 : X.b.tx.size <= 8) (pa n v : Nat) (hpa : pa < 17184063488) (hn : 1 <= n) (hv : v < 4294967296) (ht : ptB pa n = true) (w) (hw : Hid (XAt w mb rb X)) :
 CX 271 #[.pointer (some ⟨mb, 0, none⟩), porV pa n, .int .i64 v] (.tuple #[]) [mb] mb rb (X.withB (writeD X.b pa n v)) w := by
 have hlt := hw.out.lt
 have hrlt := hw.out.rlt
 have hlt' : ¬ mb = w.heap.size := by omega
 have hfr := hw.out.fro
 have c66 := hw.out.c66
 have c67 := hw.out.c67
 have c68 := hw.out.c68
 have c69 := hw.out.c69
 have c70 := hw.out.c70
 have htm := (pt_holds (L := 0) ht).2.2
 rw [write_pt X.b pa n v ht]
 have TM : Hid (∀ W, CS 340 #[.int .i64 pa, .int .i64 n] (.bool false) W) := zq36
 have PT : Hid (∀ W, CS 342 #[.int .i64 pa, .int .i64 n] (.bool true) W) := zq37
 have wr : IntKind.i64.wrap ((pa : Int) - 268435456) = (pa : Int) - 268435456 := zq9
 have m8 : bits .and .i64 (v : Int) 255 = ((v % 256 : Nat) : Int) := by
  have := and_mask (v : Int) 8 (by decide)
  have e : ((2 : Int) ^ 8) = 256 := by decide
  have e2 : ((2 ^ 8 - 1 : Nat) : Int) = 255 := by decide
  rw [e, e2] at this
  rw [this]; simp
 have RD := fun W => hide1 (x_pwritten X.b hx8 ((pa : Int) - 268435456) (v % 256) W)
 have hbr : SameBut5 X.b (pwrB X.b ((pa : Int) - 268435456) (v % 256)) := by
  unfold pwrB
  repeat' split
  all_goals exact ⟨rfl, rfl, rfl, rfl, rfl, rfl⟩
 obtain ⟨B, hB⟩ := zn1 (pwrB X.b ((pa : Int) - 268435456) (v % 256))
 simp only [<- hB] at RD hbr |-
 obtain ⟨u, hu⟩ := zn1 (v % 256)
 simp only [<- hu] at RD m8
 have q : ((n : Int) == 0) = false := by simp; omega
 have q' : (n == 0) = false := by simp; omega
 unfold prtA at RD
 have HBR := hide1 hbr
 clear hB ht hbr htm hu
 unfold porV
 go_enter func271, ntmps271
 go_upto_region 6 with (first | (go_at_call 340; refine (TM.out _).mono ?_; rintro o w2 ⟨rfl, rfl⟩) | (go_at_call 342; refine (PT.out _).mono ?_; rintro o w2 ⟨rfl, rfl⟩))
 go_region_with (first | (go_at_call 345; refine (RD _).out.mono ?_; rintro o w1 ⟨rfl, hk1⟩; have hx1 : XAt w1 mb rb X := XAt.kept zq509 hk1; have d66 := hx1.c66; have d67 := hx1.c67; have d68 := hx1.c68; have d69 := hx1.c69; have d70 := hx1.c70; have hfr1 := hx1.fro))
 all_goals
  have hx1 : XAt w1 mb rb X := zq38
  go_wp2_with fail
  go_end0
  refine ⟨rfl, ?_, ?_⟩
  . repeat (first | (with_reducible exact hx1) | (with_reducible refine XAt.alloc ?_ _) | (with_reducible refine XAt.drew ?_) | (with_reducible refine XAt.setPort ?_ B HBR.out))
  . exact zq246
theorem x_write_r (mb rb : Nat) (X : XS) (hram : X.b.ram.length <= 65536) (pa n v : Nat) (hpa : pa < 17184063488) (hn : 1 <= n) (hn4 : n <= 4) (hv : v < 4294967296) (hh : holdsD pa n X.b.ram.length = true) (w) (hw : Hid (XAt w mb rb X)) :
 CX 271 #[.pointer (some ⟨mb, 0, none⟩), porV pa n, .int .i64 v] (.tuple #[]) [rb] mb rb (X.withB (writeD X.b pa n v)) w := by
 have hlt := hw.out.lt
 have hrlt := hw.out.rlt
 have hlt' : ¬ mb = w.heap.size := by omega
 have hfr := hw.out.fro
 have ht : tmB pa n = false := by
  cases h : tmB pa n with
  | false => rfl
  | true => rw [(tm_holds (L := X.b.ram.length) h).1] at hh; cases hh
 have hp : ptB pa n = false := by
  cases h : ptB pa n with
  | false => rfl
  | true => rw [(pt_holds (L := X.b.ram.length) h).1] at hh; cases hh
 have er : writeD X.b pa n v = { X.b with ram := stN X.b.ram (((pa : Int) - 2147483648).toNat) n v } := by unfold writeD; rw [if_pos hh]; simp
 rw [er]
 have hr : 2147483648 <= pa /\ pa - 2147483648 + n <= X.b.ram.length := by
  have h := hh
  unfold holdsD at h; simp at h; omega
 obtain ⟨p, hp2⟩ := zn1 (((pa : Int) - 2147483648).toNat)
 rw [<- hp2]
 have TM : Hid (∀ W, CS 340 #[.int .i64 pa, .int .i64 n] (.bool false) W) := zq39
 have PT : Hid (∀ W, CS 342 #[.int .i64 pa, .int .i64 n] (.bool false) W) := zq40
 have RN := hide1 (fun W h => x_setRamNumber_yes mb rb X hram pa p n (by omega) hn hn4 (by omega) v hv W h)
 have hwa : Hid (XAt (w.alloc (.cells #[.int .i64 pa, .int .i64 n] 231)) mb rb X) := zq10
 have q : ((n : Int) == 0) = false := by simp; omega
 have q' : (n == 0) = false := by simp; omega
 clear ht hp hp2 hr er hh
 unfold porV
 go_enter func271, ntmps271
 go_wp2_with (first | (go_at_call 340; refine (TM.out _).mono ?_; rintro o w2 ⟨rfl, rfl⟩) | (go_at_call 342; refine (PT.out _).mono ?_; rintro o w2 ⟨rfl, rfl⟩) | (go_at_call 346; refine (RN.out _ hwa).mono ?_; rintro o w1 ⟨rfl, hx1, hk1⟩))
 exact zq249
theorem x_write (mb rb : Nat) (X : XS) (hB : BusOk X.b) (pa n v : Nat) (hpa : pa < 17184063488) (hn : 1 <= n) (hn4 : n <= 4) (hv : v < 4294967296) (ht : takesD pa n X.b.ram.length = true) (w) (hw : Hid (XAt w mb rb X)) :
 CX 271 #[.pointer (some ⟨mb, 0, none⟩), porV pa n, .int .i64 v] (.tuple #[]) [mb, rb] mb rb (X.withB (writeD X.b pa n v)) w := by
 rw [takes_or] at ht
 cases hh : holdsD pa n X.b.ram.length with
 | true =>
  refine (x_write_r mb rb X hB.ram pa n v hpa hn hn4 hv hh w hw).mono ?_
  rintro o w1 ⟨rfl, hx, hk⟩
  exact ⟨rfl, hx, hk.mono (by simp)⟩
 | false =>
  cases htm : tmB pa n with
  | true =>
   refine (x_write_t mb rb X pa n v hpa hn hv htm w hw).mono ?_
   rintro o w1 ⟨rfl, hx, hk⟩
   exact ⟨rfl, hx, hk.mono (by simp)⟩
  | false =>
   rw [hh, htm] at ht
   refine (x_write_p mb rb X hB.tx pa n v hpa hn hv (by simpa using ht) w hw).mono ?_
   rintro o w1 ⟨rfl, hx, hk⟩
   exact ⟨rfl, hx, hk.mono (by simp)⟩
end
theorem sum_le : ∀ (q : List UInt8) (w : Nat), Pic.sum q w <= 33554432 * q.length
 | [], _ => by simp [Pic.sum]
 | x :: q, w => by
  have h := sum_le q (w / 2)
  simp only [Pic.sum, List.length_cons]
  cases hl : Pic.isLet x with
  | false => simp; omega
  | true =>
   simp only [Pic.isLet, Bool.and_eq_true, decide_eq_true_eq] at hl
   have h1 : 2 ^ (x.toNat - 97) <= 2 ^ 25 := Nat.pow_le_pow_right (by decide) (by omega)
   have h2 : w % 2 * 2 ^ (x.toNat - 97) <= 1 * 2 ^ (x.toNat - 97) := Nat.mul_le_mul_right _ (by omega)
   have h3 : (2 : Nat) ^ 25 = 33554432 := by decide
   simp only [cond_true]; omega
theorem high_le : ∀ (q : List UInt8), Pic.high q <= 33554432
 | [] => by simp [Pic.high]
 | x :: q => by
  have h := high_le q
  cases hl : Pic.isLet x with
  | false => simp only [Pic.high, hl, cond_false]; exact h
  | true =>
   simp only [Pic.high, hl, cond_true]
   simp only [Pic.isLet, Bool.and_eq_true, decide_eq_true_eq] at hl
   have h1 : 2 ^ (x.toNat - 97) <= 2 ^ 25 := Nat.pow_le_pow_right (by decide) (by omega)
   have h3 : (2 : Nat) ^ 25 = 33554432 := by decide
   omega
def immOf (s : ByteArray) (neg : Bool) (W : Nat) : Int := Pic.imm (Pic.rv s.data.toList s.size) neg W
theorem wrap_nat (p : Nat) (h : p <= 2147483648) : wrap64 (p : Int) = p := by unfold wrap64; omega
theorem wrap_add (a b : Nat) (h : a + b <= 2147483648) : wrap64 ((a : Int) + (b : Int)) = (a : Int) + b := by unfold wrap64; omega
theorem imm_hit {c : UInt8} {q : List UInt8} {x nn tt T H p : Nat} (hl : Pic.isLet c = true) (hp : Hid (p = 2 ^ (c.toNat - 97))) (h : Hid (nn + Pic.sum (c :: q) x = T /\ max tt (Pic.high (c :: q)) = H)) :
 Hid (nn + x % 2 * p + Pic.sum q (x / 2) = T /\ max (max tt p) (Pic.high q) = H) := by
 obtain ⟨h1, h2⟩ := h.out
 simp only [Pic.sum, Pic.high, hl, cond_true] at h1 h2
 rw [<- hp.out] at h1 h2
 exact ⟨by omega, by omega⟩
theorem imm_miss {c : UInt8} {q : List UInt8} {x nn tt T H : Nat} (hl : Pic.isLet c = false) (h : Hid (nn + Pic.sum (c :: q) x = T /\ max tt (Pic.high (c :: q)) = H)) :
 Hid (nn + Pic.sum q (x / 2) = T /\ max tt (Pic.high q) = H) := by
 obtain ⟨h1, h2⟩ := h.out
 simp only [Pic.sum, Pic.high, hl, cond_false, Nat.zero_add] at h1 h2
 exact ⟨h1, h2⟩
theorem pow_wrap {n : Nat} (h : n <= 25) : wrap64 (2 ^ n) = ((2 ^ n : Nat) : Int) /\ 2 ^ n <= 33554432 /\ 1 <= 2 ^ n := by
 have h1 : 2 ^ n <= 2 ^ 25 := Nat.pow_le_pow_right (by decide) h
 have h3 : (2 : Nat) ^ 25 = 33554432 := by decide
 have h4 : 1 <= 2 ^ n := Nat.one_le_two_pow
 have e1 : ((2 : Int) ^ n) = ((2 ^ n : Nat) : Int) := by simp
 refine ⟨?_, by omega, h4⟩
 rw [e1]; unfold wrap64; omega
theorem i_immediate (s : ByteArray) (hs : s.size <= 32) (neg : Bool) (W : Nat) (hW : W < 4294967296) (w : World) :
 CS 299 #[.string s, .bool neg, .int .i64 W] (.int .i64 (immOf s neg W)) w := by
 obtain ⟨T, hT⟩ := zn1 (Pic.sum (Pic.rv s.data.toList s.size) W)
 obtain ⟨H, hH⟩ := zn1 (Pic.high (Pic.rv s.data.toList s.size))
 have bT : T <= 1073741824 := by
  have := sum_le (Pic.rv s.data.toList s.size) W
  rw [Pic.rv_length _ _ (by simp), <- hT] at this
  omega
 have bH : H <= 33554432 := by rw [hH]; exact high_le _
 have HI : Hid (immOf s neg W = if neg = true /\ H <= T then (T : Int) - 2 * (H : Int) else (T : Int)) := by rw [hT, hH]; rfl
 have HT : Hid (T = Pic.sum (Pic.rv s.data.toList s.size) W) := hT
 have HH : Hid (H = Pic.high (Pic.rv s.data.toList s.size)) := hH
 clear hT hH
 go_enter func299, ntmps299
 go_wp2
 go_loop [2, 7, 8, 9] (fun y n t k => ∃ j x nn tt : Nat, j <= s.size /\ x < 4294967296 /\ k = .int .i64 ((j : Int) - 1) /\ y = .int .i64 x /\ n = .int .i64 nn /\ t = .int .i64 tt /\
  Hid (nn + Pic.sum (Pic.rv s.data.toList j) x = T /\ max tt (Pic.high (Pic.rv s.data.toList j)) = H)) (fun _ _ _ k => (intOf k + 1).toNat)
 case atStart => exact ⟨s.size, W, 0, 0, Nat.le_refl _, hW, rfl, rfl, rfl, rfl, ⟨by rw [<- HT.out]; omega, by rw [<- HH.out]; omega⟩⟩
 case round =>
  obtain ⟨j, x, nn, tt, hj, hx, rfl, rfl, rfl, rfl, hh⟩ := hrel
  have b1 : nn <= 1073741824 := by have := hh.out.1; omega
  have b2 : tt <= 33554432 := by have := hh.out.2; omega
  cases j with
  | zero =>
   obtain ⟨q1, q2⟩ := hh.out
   simp only [Pic.rv_zero, Pic.sum, Pic.high, Nat.add_zero, Nat.max_zero] at q1 q2
   subst q1
   subst q2
   clear hh
   cases neg with
   | false =>
    go_wp2
    go_ret
    exact ⟨congrArg (fun z => Ending.returned (Value.int .i64 z)) (by rw [HI.out]; simp), rfl⟩
   | true =>
    by_cases hge : tt <= nn
    . go_wp2
      go_ret
      exact ⟨congrArg (fun z => Ending.returned (Value.int .i64 z)) (by rw [HI.out, if_pos (by simpa using hge)]), rfl⟩
    . have hge' : decide ((tt : Int) <= nn) = false := by rw [decide_eq_false_iff_not]; omega
      go_wp2
      go_ret
      exact ⟨congrArg (fun z => Ending.returned (Value.int .i64 z)) (by rw [HI.out, if_neg (fun h => hge h.2)]), rfl⟩
  | succ i =>
   have e : ((i + 1 : Nat) : Int) - 1 = (i : Int) := by omega
   rw [e]
   have hi : i < s.size := by omega
   rw [rv_at s i hi] at hh
   by_cases hl : Pic.isLet s[i] = true
   . have c1 : 97 <= s[i].toNat /\ s[i].toNat <= 122 := by simpa [Pic.isLet] using hl
     obtain ⟨c1, c2⟩ := c1
     obtain ⟨hw1, hw2, hw3⟩ := pow_wrap (n := s[i].toNat - 97) (by omega)
     obtain ⟨p, hp⟩ := zn1 (2 ^ (s[i].toNat - 97))
     rw [<- hp] at hw1 hw2 hw3
     have HP : Hid (p = 2 ^ (s[i].toNat - 97)) := hp
     clear hp
     have H2 := imm_hit hl HP hh
     have b3 : nn + x % 2 * p <= 1073741824 := by have := H2.out.1; omega
     have hwp := wrap_nat p (Nat.le_trans hw2 (by decide))
     have HW1 : Hid (wrap64 (2 ^ (s[i].toNat - 97)) = (p : Int)) := hw1
     have HWP : Hid (wrap64 (p : Int) = p) := hwp
     clear hwp hw1
     clear hh
     rcases Nat.mod_two_eq_zero_or_one x with hm | hm
     . have h1 : bits BinOp.and IntKind.i64 (x : Int) 1 = 0 := by rw [and_one]; omega
       rw [hm] at H2 b3
       have HM : Hid (x % 2 = 0) := hm
       clear hm
       go_wp2_with (go_at_call 211; refine (i_isLet _ _).mono ?_; rintro e w' ⟨rfl, rfl⟩)
       . have hgt : (tt : Int) < wrap64 (2 ^ (s[i].toNat - 97)) := by assumption
         rw [HW1.out] at hgt
         have hgt' : tt <= p := by omega
         go_round
         case rel => exact ⟨i, x / 2, nn, p, by omega, by omega, by go_num, by go_num, rfl, congrArg (Value.int .i64) HW1.out, by simpa [Nat.max_eq_right hgt'] using H2⟩
         case measure => simp [intOf]
       . have hgt : wrap64 (2 ^ (s[i].toNat - 97)) <= (tt : Int) := by assumption
         rw [HW1.out] at hgt
         have hgt' : p <= tt := by omega
         go_round
         case rel => exact ⟨i, x / 2, nn, tt, by omega, by omega, by go_num, by go_num, rfl, rfl, by simpa [Nat.max_eq_left hgt'] using H2⟩
         case measure => simp [intOf]
     . have h1 : bits BinOp.and IntKind.i64 (x : Int) 1 = 1 := by rw [and_one]; omega
       rw [hm] at H2 b3
       have HM : Hid (x % 2 = 1) := hm
       clear hm
       have hwn := wrap_add nn p (Nat.le_trans (by simpa using b3) (by decide))
       have HWN : Hid (wrap64 ((nn : Int) + (p : Int)) = (nn : Int) + p) := hwn
       clear hwn
       go_wp2_with (go_at_call 211; refine (i_isLet _ _).mono ?_; rintro e w' ⟨rfl, rfl⟩)
       . have hgt : (tt : Int) < wrap64 (2 ^ (s[i].toNat - 97)) := by assumption
         rw [HW1.out] at hgt
         have hgt' : tt <= p := by omega
         go_round
         case rel => exact ⟨i, x / 2, nn + p, p, by omega, by omega, by go_num, by go_num, congrArg (Value.int .i64) zq510, congrArg (Value.int .i64) HW1.out, by simpa [Nat.max_eq_right hgt'] using H2⟩
         case measure => simp [intOf]
       . have hgt : wrap64 (2 ^ (s[i].toNat - 97)) <= (tt : Int) := by assumption
         rw [HW1.out] at hgt
         have hgt' : p <= tt := by omega
         go_round
         case rel => exact ⟨i, x / 2, nn + p, tt, by omega, by omega, by go_num, by go_num, congrArg (Value.int .i64) zq510, rfl, by simpa [Nat.max_eq_left hgt'] using H2⟩
         case measure => simp [intOf]
   . have hl : Pic.isLet s[i] = false := by simpa using hl
     have H2 := imm_miss hl hh
     clear hh
     go_wp2_with (go_at_call 211; refine (i_isLet _ _).mono ?_; rintro e w' ⟨rfl, rfl⟩)
     exact zq209
theorem draw_one {q : List UInt8} {acc tt T : Nat} {c : UInt8} {rd rs1 rs2 im : Int} (hc : (c.toNat : Int) = 49)
 (h : Hid (acc + tt * Pic.draw (c :: q) rd rs1 rs2 im = T)) : Hid (acc + tt + (tt * 2) * Pic.draw q rd rs1 rs2 im = T) := by
 have e : c = 49 := (u8_eq (n := 49) (by decide)).1 hc
 have h1 := h.out
 simp only [Pic.draw, if_pos e] at h1
 show _ = _
 rw [<- h1, Nat.mul_add, Nat.mul_assoc]; omega
theorem draw_rd {q : List UInt8} {acc tt T b : Nat} {c : UInt8} {rd rs1 rs2 im : Int} (hc : (c.toNat : Int) = 68 \/ (c.toNat : Int) = 66) (hb : rd % 2 = b)
 (h : Hid (acc + tt * Pic.draw (c :: q) rd rs1 rs2 im = T)) : Hid (acc + b * tt + (tt * 2) * Pic.draw q (rd / 2) rs1 rs2 im = T) := by
 have e : c = 68 \/ c = 66 := hc.imp (u8_eq (n := 68) (by decide)).1 (u8_eq (n := 66) (by decide)).1
 have n1 : ¬ c = 49 := by rcases e with e | e <;> subst e <;> decide
 have h1 := h.out
 simp only [Pic.draw, if_neg n1, if_pos e] at h1
 exact zq250
theorem draw_rs1 {q : List UInt8} {acc tt T b : Nat} {c : UInt8} {rd rs1 rs2 im : Int} (hc : (c.toNat : Int) = 83) (hb : rs1 % 2 = b)
 (h : Hid (acc + tt * Pic.draw (c :: q) rd rs1 rs2 im = T)) : Hid (acc + b * tt + (tt * 2) * Pic.draw q rd (rs1 / 2) rs2 im = T) := by
 have e : c = 83 := (u8_eq (n := 83) (by decide)).1 hc
 subst e
 have h1 := h.out
 simp only [Pic.draw, if_neg (show ¬ ((83 : UInt8) = 49) by decide), if_neg (show ¬ ((83 : UInt8) = 68 \/ (83 : UInt8) = 66) by decide), if_true] at h1
 exact zq250
theorem draw_rs2 {q : List UInt8} {acc tt T b : Nat} {c : UInt8} {rd rs1 rs2 im : Int} (hc : (c.toNat : Int) = 84) (hb : rs2 % 2 = b)
 (h : Hid (acc + tt * Pic.draw (c :: q) rd rs1 rs2 im = T)) : Hid (acc + b * tt + (tt * 2) * Pic.draw q rd rs1 (rs2 / 2) im = T) := by
 have e : c = 84 := (u8_eq (n := 84) (by decide)).1 hc
 subst e
 have h1 := h.out
 simp only [Pic.draw, if_neg (show ¬ ((84 : UInt8) = 49) by decide), if_neg (show ¬ ((84 : UInt8) = 68 \/ (84 : UInt8) = 66) by decide), if_neg (show ¬ ((84 : UInt8) = 83) by decide), if_true] at h1
 exact zq250
theorem let_not {c : UInt8} (hl : Pic.isLet c = true) : ¬ c = 49 /\ ¬ (c = 68 \/ c = 66) /\ ¬ c = 83 /\ ¬ c = 84 := by
 refine ⟨?_, ?_, ?_, ?_⟩
 . intro e; subst e; revert hl; decide
 . rintro (e | e) <;> subst e <;> revert hl <;> decide
 . intro e; subst e; revert hl; decide
 . intro e; subst e; revert hl; decide
theorem draw_imm {q : List UInt8} {acc tt T b : Nat} {c : UInt8} {rd rs1 rs2 im : Int} (hl : Pic.isLet c = true) (hb : im / 2 ^ (c.toNat - 97) % 2 = b)
 (h : Hid (acc + tt * Pic.draw (c :: q) rd rs1 rs2 im = T)) : Hid (acc + b * tt + (tt * 2) * Pic.draw q rd rs1 rs2 im = T) := by
 obtain ⟨n1, n2, n3, n4⟩ := let_not hl
 have h1 := h.out
 simp only [Pic.draw, if_neg n1, if_neg n2, if_neg n3, if_neg n4, if_pos hl] at h1
 exact zq250
theorem draw_none {q : List UInt8} {acc tt T : Nat} {c : UInt8} {rd rs1 rs2 im : Int} (h1 : ¬ (c.toNat : Int) = 49) (h2 : ¬ (c.toNat : Int) = 68) (h3 : ¬ (c.toNat : Int) = 66) (h4 : ¬ (c.toNat : Int) = 83) (h5 : ¬ (c.toNat : Int) = 84) (hl : Pic.isLet c = false)
 (h : Hid (acc + tt * Pic.draw (c :: q) rd rs1 rs2 im = T)) : Hid (acc + (tt * 2) * Pic.draw q rd rs1 rs2 im = T) := by
 have n1 : ¬ c = 49 := fun e => h1 ((u8_eq (n := 49) (by decide)).2 e)
 have n2 : ¬ (c = 68 \/ c = 66) := by
  rintro (e | e)
  . exact h2 ((u8_eq (n := 68) (by decide)).2 e)
  . exact h3 ((u8_eq (n := 66) (by decide)).2 e)
 have n3 : ¬ c = 83 := fun e => h4 ((u8_eq (n := 83) (by decide)).2 e)
 have n4 : ¬ c = 84 := fun e => h5 ((u8_eq (n := 84) (by decide)).2 e)
 have g := h.out
 simp only [Pic.draw, if_neg n1, if_neg n2, if_neg n3, if_neg n4, hl, Bool.false_eq_true, if_false] at g
 show _ = _
 rw [<- g, Nat.mul_assoc]
theorem i_draw (s : ByteArray) (hs : s.size <= 32) (op rd rs1 rs2 im ln : Int) (w : World) :
 Calls prog 140 #[.string s, .agg #[.int .i64 op, .int .i64 rd, .int .i64 rs1, .int .i64 rs2, .int .i64 im, .int .i64 ln]] w fun e w' =>
  e = .returned (.int .i64 (Pic.draw (Pic.rv s.data.toList s.size) rd rs1 rs2 im)) /\ Below w.heap.size w w' := by
 obtain ⟨T, hT⟩ := zn1 (Pic.draw (Pic.rv s.data.toList s.size) rd rs1 rs2 im)
 have bT : T < 4294967296 := by
  have h := Pic.draw_lt (Pic.rv s.data.toList s.size) rd rs1 rs2 im
  rw [Pic.rv_length _ _ (by simp), <- hT] at h
  have c : 2 ^ s.size <= 2 ^ 32 := Nat.pow_le_pow_right (by decide) hs
  have d : (2 : Nat) ^ 32 = 4294967296 := by decide
  omega
 rw [<- hT]
 have HT : Hid (T = Pic.draw (Pic.rv s.data.toList s.size) rd rs1 rs2 im) := hT
 clear hT
 go_enter func140, ntmps140
 go_wp2
 go_loop [5, 6, 7, 8, 9, 10] (fun a t d r1 r2 k => ∃ (j acc tt : Nat) (yd y1 y2 : Int), j <= s.size /\ k = .int .i64 ((j : Int) - 1) /\ a = .int .i64 acc /\ t = .int .i64 tt /\ d = .int .i64 yd /\ r1 = .int .i64 y1 /\ r2 = .int .i64 y2 /\ tt <= 4294967296 /\
  Hid (tt * 2 ^ j = 2 ^ s.size) /\ Hid (acc + tt * Pic.draw (Pic.rv s.data.toList j) yd y1 y2 im = T)) (fun _ _ _ _ _ k => (intOf k + 1).toNat)
 case atStart => exact ⟨s.size, 0, 1, rd, rs1, rs2, Nat.le_refl _, rfl, rfl, rfl, rfl, rfl, rfl, by omega, (by omega : 1 * 2 ^ s.size = 2 ^ s.size), (by rw [<- HT.out]; omega : 0 + 1 * Pic.draw (Pic.rv s.data.toList s.size) rd rs1 rs2 im = T)⟩
 case round =>
  obtain ⟨j, acc, tt, yd, y1, y2, hj, rfl, rfl, rfl, rfl, rfl, rfl, b2, ht, hh⟩ := hrel
  have b1 : acc < 4294967296 := by have := hh.out; omega
  cases j with
  | zero =>
   have q := hh.out
   simp only [Pic.rv_zero, Pic.draw, Nat.mul_zero, Nat.add_zero] at q
   subst q
   go_wp2
   go_ret
   exact ⟨rfl, (Below.refl _ _).alloc (Nat.le_refl _) _⟩
  | succ i =>
   have e : ((i + 1 : Nat) : Int) - 1 = (i : Int) := by omega
   rw [e]
   have hi : i < s.size := by omega
   rw [rv_at s i hi] at hh
   have ht' : tt * 2 * 2 ^ i = 2 ^ s.size := by rw [Nat.mul_assoc, <- Nat.pow_succ']; exact ht.out
   have b3 : tt * 2 <= 4294967296 := by
    have c : 2 ^ s.size <= 2 ^ 32 := Nat.pow_le_pow_right (by decide) hs
    have d : (2 : Nat) ^ 32 = 4294967296 := by decide
    have e : 1 <= 2 ^ i := Nat.one_le_two_pow
    have f : tt * 2 * 1 <= tt * 2 * 2 ^ i := Nat.mul_le_mul_left _ e
    omega
   have HTT : Hid (tt * 2 * 2 ^ i = 2 ^ s.size) := ht'
   clear ht' ht
   by_cases c1 : (s[i].toNat : Int) = 49
   . have H2 := draw_one c1 hh
     have b4 : acc + tt < 4294967296 := by have := H2.out; omega
     have C1 : ((s[i].toNat : Int) == 49) = true := by rw [beq_iff_eq]; exact c1
     have c1' : Hid ((s[i].toNat : Int) = 49) := c1
     clear c1 hh
     go_wp2
     go_round
     case rel => exact ⟨i, acc + tt, tt * 2, yd, y1, y2, by omega, by go_num, by go_num, by go_num, rfl, rfl, rfl, b3, HTT, H2⟩
     case measure => simp [intOf]
   . have C49 : ((s[i].toNat : Int) == 49) = false := by rw [beq_eq_false_iff_ne]; exact c1
     by_cases c68 : (s[i].toNat : Int) = 68
     . have C68 : ((s[i].toNat : Int) == 68) = true := by rw [beq_iff_eq]; exact c68
       have hcl : (s[i].toNat : Int) = 68 \/ (s[i].toNat : Int) = 66 := Or.inl c68
       clear c68 c1
       exact zq252
     have C68 : ((s[i].toNat : Int) == 68) = false := by rw [beq_eq_false_iff_ne]; exact c68
     by_cases c66 : (s[i].toNat : Int) = 66
     . have C66 : ((s[i].toNat : Int) == 66) = true := by rw [beq_iff_eq]; exact c66
       have hcl : (s[i].toNat : Int) = 68 \/ (s[i].toNat : Int) = 66 := Or.inr c66
       clear c68 c1 c66
       exact zq252
     have C66 : ((s[i].toNat : Int) == 66) = false := by rw [beq_eq_false_iff_ne]; exact c66
     by_cases c83 : (s[i].toNat : Int) = 83
     . have C83 : ((s[i].toNat : Int) == 83) = true := by rw [beq_iff_eq]; exact c83
       have hcl := c83
       clear c68 c1 c66 c83
       rcases Int.emod_two_eq y1 with hb | hb
       . have H2 := draw_rs1 (b := 0) hcl hb hh
         have h1 : bits BinOp.and IntKind.i64 (y1) 1 = 0 := zq41
         have H3 : Hid (acc + (tt * 2) * Pic.draw (Pic.rv s.data.toList i) yd (y1 / 2) y2 im = T) := by simpa using H2
         have b4 : acc < 4294967296 := zq42
         clear hb hh H2 hcl
         go_wp2
         go_round
         case rel => exact ⟨i, acc, tt * 2, yd, y1 / 2, y2, by omega, by go_num, by go_num, by go_num, rfl, rfl, rfl, b3, HTT, H3⟩
         case measure => simp [intOf]
       . have H2 := draw_rs1 (b := 1) hcl hb hh
         have h1 : bits BinOp.and IntKind.i64 (y1) 1 = 1 := zq41
         have H3 : Hid (acc + tt + (tt * 2) * Pic.draw (Pic.rv s.data.toList i) yd (y1 / 2) y2 im = T) := by simpa using H2
         have b4 : acc + tt < 4294967296 := zq42
         clear hb hh H2 hcl
         go_wp2
         go_round
         case rel => exact ⟨i, acc + tt, tt * 2, yd, y1 / 2, y2, by omega, by go_num, by go_num, by go_num, rfl, rfl, rfl, b3, HTT, H3⟩
         case measure => simp [intOf]
     have C83 : ((s[i].toNat : Int) == 83) = false := by rw [beq_eq_false_iff_ne]; exact c83
     by_cases c84 : (s[i].toNat : Int) = 84
     . have C84 : ((s[i].toNat : Int) == 84) = true := by rw [beq_iff_eq]; exact c84
       have hcl := c84
       clear c68 c1 c66 c83 c84
       rcases Int.emod_two_eq y2 with hb | hb
       . have H2 := draw_rs2 (b := 0) hcl hb hh
         have h1 : bits BinOp.and IntKind.i64 (y2) 1 = 0 := zq41
         have H3 : Hid (acc + (tt * 2) * Pic.draw (Pic.rv s.data.toList i) yd y1 (y2 / 2) im = T) := by simpa using H2
         have b4 : acc < 4294967296 := zq42
         clear hb hh H2 hcl
         go_wp2
         go_round
         case rel => exact ⟨i, acc, tt * 2, yd, y1, y2 / 2, by omega, by go_num, by go_num, by go_num, rfl, rfl, rfl, b3, HTT, H3⟩
         case measure => simp [intOf]
       . have H2 := draw_rs2 (b := 1) hcl hb hh
         have h1 : bits BinOp.and IntKind.i64 (y2) 1 = 1 := zq41
         have H3 : Hid (acc + tt + (tt * 2) * Pic.draw (Pic.rv s.data.toList i) yd y1 (y2 / 2) im = T) := by simpa using H2
         have b4 : acc + tt < 4294967296 := zq42
         clear hb hh H2 hcl
         go_wp2
         go_round
         case rel => exact ⟨i, acc + tt, tt * 2, yd, y1, y2 / 2, by omega, by go_num, by go_num, by go_num, rfl, rfl, rfl, b3, HTT, H3⟩
         case measure => simp [intOf]
     have C84 : ((s[i].toNat : Int) == 84) = false := by rw [beq_eq_false_iff_ne]; exact c84
     by_cases hl : Pic.isLet s[i] = true
     . have cc : 97 <= s[i].toNat /\ s[i].toNat <= 122 := by simpa [Pic.isLet] using hl
       obtain ⟨cc1, cc2⟩ := cc
       have hcl := hl
       clear c68 c1 c66 c83 c84
       rcases Int.emod_two_eq (im / 2 ^ (s[i].toNat - 97)) with hb | hb
       . have H2 := draw_imm (b := 0) hcl hb hh
         have h1 : bits BinOp.and IntKind.i64 ((im / 2 ^ (s[i].toNat - 97))) 1 = 0 := zq41
         have H3 : Hid (acc + (tt * 2) * Pic.draw (Pic.rv s.data.toList i) yd y1 y2 im = T) := by simpa using H2
         have b4 : acc < 4294967296 := zq42
         clear hb hh H2 hcl
         exact zq251
       . have H2 := draw_imm (b := 1) hcl hb hh
         have h1 : bits BinOp.and IntKind.i64 ((im / 2 ^ (s[i].toNat - 97))) 1 = 1 := zq41
         have H3 : Hid (acc + tt + (tt * 2) * Pic.draw (Pic.rv s.data.toList i) yd y1 y2 im = T) := by simpa using H2
         have b4 : acc + tt < 4294967296 := zq42
         clear hb hh H2 hcl
         go_wp2_with (go_at_call 211; refine (i_isLet _ _).mono ?_; rintro e w' ⟨rfl, rfl⟩)
         go_round
         case rel => exact ⟨i, acc + tt, tt * 2, yd, y1, y2, by omega, by go_num, by go_num, by go_num, rfl, rfl, rfl, b3, HTT, H3⟩
         case measure => simp [intOf]
     have hl' : Pic.isLet s[i] = false := by simpa using hl
     have H3 := draw_none c1 c68 c66 c83 c84 hl' hh
     clear hh c1 c68 c66 c83 c84 hl
     exact zq251
namespace Tab
def upperRow (op : Int) : Int × ByteArray × Int :=
 bif op == 1 then (op, ⟨#[116, 115, 114, 113, 112, 111, 110, 109, 108, 107, 106, 105, 104, 103, 102, 101, 100, 99, 98, 97, 68, 68, 68, 68, 68, 48, 49, 49, 48, 49, 49, 49]⟩, 1) else
 bif op == 2 then (op, ⟨#[116, 115, 114, 113, 112, 111, 110, 109, 108, 107, 106, 105, 104, 103, 102, 101, 100, 99, 98, 97, 68, 68, 68, 68, 68, 48, 48, 49, 48, 49, 49, 49]⟩, 1) else
 (0, ⟨#[]⟩, 0)
def jumpRow (op : Int) : Int × ByteArray × Int :=
 bif op == 3 then (op, ⟨#[117, 107, 106, 105, 104, 103, 102, 101, 100, 99, 98, 108, 116, 115, 114, 113, 112, 111, 110, 109, 68, 68, 68, 68, 68, 49, 49, 48, 49, 49, 49, 49]⟩, 1) else
 bif op == 4 then (op, ⟨#[108, 107, 106, 105, 104, 103, 102, 101, 100, 99, 98, 97, 83, 83, 83, 83, 83, 48, 48, 48, 68, 68, 68, 68, 68, 49, 49, 48, 48, 49, 49, 49]⟩, 1) else
 bif op == 5 then (op, ⟨#[109, 107, 106, 105, 104, 103, 102, 84, 84, 84, 84, 84, 83, 83, 83, 83, 83, 48, 48, 48, 101, 100, 99, 98, 108, 49, 49, 48, 48, 48, 49, 49]⟩, 1) else
 bif op == 6 then (op, ⟨#[109, 107, 106, 105, 104, 103, 102, 84, 84, 84, 84, 84, 83, 83, 83, 83, 83, 48, 48, 49, 101, 100, 99, 98, 108, 49, 49, 48, 48, 48, 49, 49]⟩, 1) else
 bif op == 7 then (op, ⟨#[109, 107, 106, 105, 104, 103, 102, 84, 84, 84, 84, 84, 83, 83, 83, 83, 83, 49, 48, 48, 101, 100, 99, 98, 108, 49, 49, 48, 48, 48, 49, 49]⟩, 1) else
 bif op == 8 then (op, ⟨#[109, 107, 106, 105, 104, 103, 102, 84, 84, 84, 84, 84, 83, 83, 83, 83, 83, 49, 48, 49, 101, 100, 99, 98, 108, 49, 49, 48, 48, 48, 49, 49]⟩, 1) else
 bif op == 9 then (op, ⟨#[109, 107, 106, 105, 104, 103, 102, 84, 84, 84, 84, 84, 83, 83, 83, 83, 83, 49, 49, 48, 101, 100, 99, 98, 108, 49, 49, 48, 48, 48, 49, 49]⟩, 1) else
 bif op == 10 then (op, ⟨#[109, 107, 106, 105, 104, 103, 102, 84, 84, 84, 84, 84, 83, 83, 83, 83, 83, 49, 49, 49, 101, 100, 99, 98, 108, 49, 49, 48, 48, 48, 49, 49]⟩, 1) else
 (0, ⟨#[]⟩, 0)
def memoryRow (op : Int) : Int × ByteArray × Int :=
 bif op == 11 then (op, ⟨#[108, 107, 106, 105, 104, 103, 102, 101, 100, 99, 98, 97, 83, 83, 83, 83, 83, 48, 48, 48, 68, 68, 68, 68, 68, 48, 48, 48, 48, 48, 49, 49]⟩, 1) else
 bif op == 12 then (op, ⟨#[108, 107, 106, 105, 104, 103, 102, 101, 100, 99, 98, 97, 83, 83, 83, 83, 83, 48, 48, 49, 68, 68, 68, 68, 68, 48, 48, 48, 48, 48, 49, 49]⟩, 1) else
 bif op == 13 then (op, ⟨#[108, 107, 106, 105, 104, 103, 102, 101, 100, 99, 98, 97, 83, 83, 83, 83, 83, 48, 49, 48, 68, 68, 68, 68, 68, 48, 48, 48, 48, 48, 49, 49]⟩, 1) else
 bif op == 14 then (op, ⟨#[108, 107, 106, 105, 104, 103, 102, 101, 100, 99, 98, 97, 83, 83, 83, 83, 83, 49, 48, 48, 68, 68, 68, 68, 68, 48, 48, 48, 48, 48, 49, 49]⟩, 1) else
 bif op == 15 then (op, ⟨#[108, 107, 106, 105, 104, 103, 102, 101, 100, 99, 98, 97, 83, 83, 83, 83, 83, 49, 48, 49, 68, 68, 68, 68, 68, 48, 48, 48, 48, 48, 49, 49]⟩, 1) else
 bif op == 16 then (op, ⟨#[108, 107, 106, 105, 104, 103, 102, 84, 84, 84, 84, 84, 83, 83, 83, 83, 83, 48, 48, 48, 101, 100, 99, 98, 97, 48, 49, 48, 48, 48, 49, 49]⟩, 1) else
 bif op == 17 then (op, ⟨#[108, 107, 106, 105, 104, 103, 102, 84, 84, 84, 84, 84, 83, 83, 83, 83, 83, 48, 48, 49, 101, 100, 99, 98, 97, 48, 49, 48, 48, 48, 49, 49]⟩, 1) else
 bif op == 18 then (op, ⟨#[108, 107, 106, 105, 104, 103, 102, 84, 84, 84, 84, 84, 83, 83, 83, 83, 83, 48, 49, 48, 101, 100, 99, 98, 97, 48, 49, 48, 48, 48, 49, 49]⟩, 1) else
 (0, ⟨#[]⟩, 0)
def immediateRow (op : Int) : Int × ByteArray × Int :=
 bif op == 19 then (op, ⟨#[108, 107, 106, 105, 104, 103, 102, 101, 100, 99, 98, 97, 83, 83, 83, 83, 83, 48, 48, 48, 68, 68, 68, 68, 68, 48, 48, 49, 48, 48, 49, 49]⟩, 1) else
 bif op == 20 then (op, ⟨#[108, 107, 106, 105, 104, 103, 102, 101, 100, 99, 98, 97, 83, 83, 83, 83, 83, 48, 49, 48, 68, 68, 68, 68, 68, 48, 48, 49, 48, 48, 49, 49]⟩, 1) else
 bif op == 21 then (op, ⟨#[108, 107, 106, 105, 104, 103, 102, 101, 100, 99, 98, 97, 83, 83, 83, 83, 83, 48, 49, 49, 68, 68, 68, 68, 68, 48, 48, 49, 48, 48, 49, 49]⟩, 1) else
 bif op == 22 then (op, ⟨#[108, 107, 106, 105, 104, 103, 102, 101, 100, 99, 98, 97, 83, 83, 83, 83, 83, 49, 48, 48, 68, 68, 68, 68, 68, 48, 48, 49, 48, 48, 49, 49]⟩, 1) else
 bif op == 23 then (op, ⟨#[108, 107, 106, 105, 104, 103, 102, 101, 100, 99, 98, 97, 83, 83, 83, 83, 83, 49, 49, 48, 68, 68, 68, 68, 68, 48, 48, 49, 48, 48, 49, 49]⟩, 1) else
 bif op == 24 then (op, ⟨#[108, 107, 106, 105, 104, 103, 102, 101, 100, 99, 98, 97, 83, 83, 83, 83, 83, 49, 49, 49, 68, 68, 68, 68, 68, 48, 48, 49, 48, 48, 49, 49]⟩, 1) else
 bif op == 25 then (op, ⟨#[48, 48, 48, 48, 48, 48, 48, 101, 100, 99, 98, 97, 83, 83, 83, 83, 83, 48, 48, 49, 68, 68, 68, 68, 68, 48, 48, 49, 48, 48, 49, 49]⟩, 0) else
 bif op == 26 then (op, ⟨#[48, 48, 48, 48, 48, 48, 48, 101, 100, 99, 98, 97, 83, 83, 83, 83, 83, 49, 48, 49, 68, 68, 68, 68, 68, 48, 48, 49, 48, 48, 49, 49]⟩, 0) else
 bif op == 27 then (op, ⟨#[48, 49, 48, 48, 48, 48, 48, 101, 100, 99, 98, 97, 83, 83, 83, 83, 83, 49, 48, 49, 68, 68, 68, 68, 68, 48, 48, 49, 48, 48, 49, 49]⟩, 0) else
 (0, ⟨#[]⟩, 0)
def registerRow (op : Int) : Int × ByteArray × Int :=
 bif op == 28 then (op, ⟨#[48, 48, 48, 48, 48, 48, 48, 84, 84, 84, 84, 84, 83, 83, 83, 83, 83, 48, 48, 48, 68, 68, 68, 68, 68, 48, 49, 49, 48, 48, 49, 49]⟩, 0) else
 bif op == 29 then (op, ⟨#[48, 49, 48, 48, 48, 48, 48, 84, 84, 84, 84, 84, 83, 83, 83, 83, 83, 48, 48, 48, 68, 68, 68, 68, 68, 48, 49, 49, 48, 48, 49, 49]⟩, 0) else
 bif op == 30 then (op, ⟨#[48, 48, 48, 48, 48, 48, 48, 84, 84, 84, 84, 84, 83, 83, 83, 83, 83, 48, 48, 49, 68, 68, 68, 68, 68, 48, 49, 49, 48, 48, 49, 49]⟩, 0) else
 bif op == 31 then (op, ⟨#[48, 48, 48, 48, 48, 48, 48, 84, 84, 84, 84, 84, 83, 83, 83, 83, 83, 48, 49, 48, 68, 68, 68, 68, 68, 48, 49, 49, 48, 48, 49, 49]⟩, 0) else
 bif op == 32 then (op, ⟨#[48, 48, 48, 48, 48, 48, 48, 84, 84, 84, 84, 84, 83, 83, 83, 83, 83, 48, 49, 49, 68, 68, 68, 68, 68, 48, 49, 49, 48, 48, 49, 49]⟩, 0) else
 bif op == 33 then (op, ⟨#[48, 48, 48, 48, 48, 48, 48, 84, 84, 84, 84, 84, 83, 83, 83, 83, 83, 49, 48, 48, 68, 68, 68, 68, 68, 48, 49, 49, 48, 48, 49, 49]⟩, 0) else
 bif op == 34 then (op, ⟨#[48, 48, 48, 48, 48, 48, 48, 84, 84, 84, 84, 84, 83, 83, 83, 83, 83, 49, 48, 49, 68, 68, 68, 68, 68, 48, 49, 49, 48, 48, 49, 49]⟩, 0) else
 bif op == 35 then (op, ⟨#[48, 49, 48, 48, 48, 48, 48, 84, 84, 84, 84, 84, 83, 83, 83, 83, 83, 49, 48, 49, 68, 68, 68, 68, 68, 48, 49, 49, 48, 48, 49, 49]⟩, 0) else
 bif op == 36 then (op, ⟨#[48, 48, 48, 48, 48, 48, 48, 84, 84, 84, 84, 84, 83, 83, 83, 83, 83, 49, 49, 48, 68, 68, 68, 68, 68, 48, 49, 49, 48, 48, 49, 49]⟩, 0) else
 bif op == 37 then (op, ⟨#[48, 48, 48, 48, 48, 48, 48, 84, 84, 84, 84, 84, 83, 83, 83, 83, 83, 49, 49, 49, 68, 68, 68, 68, 68, 48, 49, 49, 48, 48, 49, 49]⟩, 0) else
 (0, ⟨#[]⟩, 0)
def fenceRow (op : Int) : Int × ByteArray × Int :=
 bif op == 38 then (op, ⟨#[108, 107, 106, 105, 104, 103, 102, 101, 100, 99, 98, 97, 83, 83, 83, 83, 83, 48, 48, 48, 68, 68, 68, 68, 68, 48, 48, 48, 49, 49, 49, 49]⟩, 1) else
 bif op == 39 then (op, ⟨#[108, 107, 106, 105, 104, 103, 102, 101, 100, 99, 98, 97, 83, 83, 83, 83, 83, 48, 48, 49, 68, 68, 68, 68, 68, 48, 48, 48, 49, 49, 49, 49]⟩, 1) else
 bif op == 40 then (op, ⟨#[48, 48, 48, 48, 48, 48, 48, 48, 48, 48, 48, 48, 48, 48, 48, 48, 48, 48, 48, 48, 48, 48, 48, 48, 48, 49, 49, 49, 48, 48, 49, 49]⟩, 0) else
 bif op == 41 then (op, ⟨#[48, 48, 48, 48, 48, 48, 48, 48, 48, 48, 48, 49, 48, 48, 48, 48, 48, 48, 48, 48, 48, 48, 48, 48, 48, 49, 49, 49, 48, 48, 49, 49]⟩, 0) else
 (0, ⟨#[]⟩, 0)
def productRow (op : Int) : Int × ByteArray × Int :=
 bif op == 42 then (op, ⟨#[48, 48, 48, 48, 48, 48, 49, 84, 84, 84, 84, 84, 83, 83, 83, 83, 83, 48, 48, 48, 68, 68, 68, 68, 68, 48, 49, 49, 48, 48, 49, 49]⟩, 0) else
 bif op == 43 then (op, ⟨#[48, 48, 48, 48, 48, 48, 49, 84, 84, 84, 84, 84, 83, 83, 83, 83, 83, 48, 48, 49, 68, 68, 68, 68, 68, 48, 49, 49, 48, 48, 49, 49]⟩, 0) else
 bif op == 44 then (op, ⟨#[48, 48, 48, 48, 48, 48, 49, 84, 84, 84, 84, 84, 83, 83, 83, 83, 83, 48, 49, 48, 68, 68, 68, 68, 68, 48, 49, 49, 48, 48, 49, 49]⟩, 0) else
 bif op == 45 then (op, ⟨#[48, 48, 48, 48, 48, 48, 49, 84, 84, 84, 84, 84, 83, 83, 83, 83, 83, 48, 49, 49, 68, 68, 68, 68, 68, 48, 49, 49, 48, 48, 49, 49]⟩, 0) else
 bif op == 46 then (op, ⟨#[48, 48, 48, 48, 48, 48, 49, 84, 84, 84, 84, 84, 83, 83, 83, 83, 83, 49, 48, 48, 68, 68, 68, 68, 68, 48, 49, 49, 48, 48, 49, 49]⟩, 0) else
 bif op == 47 then (op, ⟨#[48, 48, 48, 48, 48, 48, 49, 84, 84, 84, 84, 84, 83, 83, 83, 83, 83, 49, 48, 49, 68, 68, 68, 68, 68, 48, 49, 49, 48, 48, 49, 49]⟩, 0) else
 bif op == 48 then (op, ⟨#[48, 48, 48, 48, 48, 48, 49, 84, 84, 84, 84, 84, 83, 83, 83, 83, 83, 49, 49, 48, 68, 68, 68, 68, 68, 48, 49, 49, 48, 48, 49, 49]⟩, 0) else
 bif op == 49 then (op, ⟨#[48, 48, 48, 48, 48, 48, 49, 84, 84, 84, 84, 84, 83, 83, 83, 83, 83, 49, 49, 49, 68, 68, 68, 68, 68, 48, 49, 49, 48, 48, 49, 49]⟩, 0) else
 (0, ⟨#[]⟩, 0)
def atomicRow (op : Int) : Int × ByteArray × Int :=
 bif op == 50 then (op, ⟨#[48, 48, 48, 49, 48, 98, 97, 48, 48, 48, 48, 48, 83, 83, 83, 83, 83, 48, 49, 48, 68, 68, 68, 68, 68, 48, 49, 48, 49, 49, 49, 49]⟩, 0) else
 bif op == 51 then (op, ⟨#[48, 48, 48, 49, 49, 98, 97, 84, 84, 84, 84, 84, 83, 83, 83, 83, 83, 48, 49, 48, 68, 68, 68, 68, 68, 48, 49, 48, 49, 49, 49, 49]⟩, 0) else
 bif op == 52 then (op, ⟨#[48, 48, 48, 48, 49, 98, 97, 84, 84, 84, 84, 84, 83, 83, 83, 83, 83, 48, 49, 48, 68, 68, 68, 68, 68, 48, 49, 48, 49, 49, 49, 49]⟩, 0) else
 bif op == 53 then (op, ⟨#[48, 48, 48, 48, 48, 98, 97, 84, 84, 84, 84, 84, 83, 83, 83, 83, 83, 48, 49, 48, 68, 68, 68, 68, 68, 48, 49, 48, 49, 49, 49, 49]⟩, 0) else
 bif op == 54 then (op, ⟨#[48, 48, 49, 48, 48, 98, 97, 84, 84, 84, 84, 84, 83, 83, 83, 83, 83, 48, 49, 48, 68, 68, 68, 68, 68, 48, 49, 48, 49, 49, 49, 49]⟩, 0) else
 bif op == 55 then (op, ⟨#[48, 49, 49, 48, 48, 98, 97, 84, 84, 84, 84, 84, 83, 83, 83, 83, 83, 48, 49, 48, 68, 68, 68, 68, 68, 48, 49, 48, 49, 49, 49, 49]⟩, 0) else
 bif op == 56 then (op, ⟨#[48, 49, 48, 48, 48, 98, 97, 84, 84, 84, 84, 84, 83, 83, 83, 83, 83, 48, 49, 48, 68, 68, 68, 68, 68, 48, 49, 48, 49, 49, 49, 49]⟩, 0) else
 bif op == 57 then (op, ⟨#[49, 48, 48, 48, 48, 98, 97, 84, 84, 84, 84, 84, 83, 83, 83, 83, 83, 48, 49, 48, 68, 68, 68, 68, 68, 48, 49, 48, 49, 49, 49, 49]⟩, 0) else
 bif op == 58 then (op, ⟨#[49, 48, 49, 48, 48, 98, 97, 84, 84, 84, 84, 84, 83, 83, 83, 83, 83, 48, 49, 48, 68, 68, 68, 68, 68, 48, 49, 48, 49, 49, 49, 49]⟩, 0) else
 bif op == 59 then (op, ⟨#[49, 49, 48, 48, 48, 98, 97, 84, 84, 84, 84, 84, 83, 83, 83, 83, 83, 48, 49, 48, 68, 68, 68, 68, 68, 48, 49, 48, 49, 49, 49, 49]⟩, 0) else
 bif op == 60 then (op, ⟨#[49, 49, 49, 48, 48, 98, 97, 84, 84, 84, 84, 84, 83, 83, 83, 83, 83, 48, 49, 48, 68, 68, 68, 68, 68, 48, 49, 48, 49, 49, 49, 49]⟩, 0) else
 (0, ⟨#[]⟩, 0)
def systemRow (op : Int) : Int × ByteArray × Int :=
 bif op == 61 then (op, ⟨#[108, 107, 106, 105, 104, 103, 102, 101, 100, 99, 98, 97, 83, 83, 83, 83, 83, 48, 48, 49, 68, 68, 68, 68, 68, 49, 49, 49, 48, 48, 49, 49]⟩, 0) else
 bif op == 62 then (op, ⟨#[108, 107, 106, 105, 104, 103, 102, 101, 100, 99, 98, 97, 83, 83, 83, 83, 83, 48, 49, 48, 68, 68, 68, 68, 68, 49, 49, 49, 48, 48, 49, 49]⟩, 0) else
 bif op == 63 then (op, ⟨#[108, 107, 106, 105, 104, 103, 102, 101, 100, 99, 98, 97, 83, 83, 83, 83, 83, 48, 49, 49, 68, 68, 68, 68, 68, 49, 49, 49, 48, 48, 49, 49]⟩, 0) else
 bif op == 64 then (op, ⟨#[108, 107, 106, 105, 104, 103, 102, 101, 100, 99, 98, 97, 83, 83, 83, 83, 83, 49, 48, 49, 68, 68, 68, 68, 68, 49, 49, 49, 48, 48, 49, 49]⟩, 0) else
 bif op == 65 then (op, ⟨#[108, 107, 106, 105, 104, 103, 102, 101, 100, 99, 98, 97, 83, 83, 83, 83, 83, 49, 49, 48, 68, 68, 68, 68, 68, 49, 49, 49, 48, 48, 49, 49]⟩, 0) else
 bif op == 66 then (op, ⟨#[108, 107, 106, 105, 104, 103, 102, 101, 100, 99, 98, 97, 83, 83, 83, 83, 83, 49, 49, 49, 68, 68, 68, 68, 68, 49, 49, 49, 48, 48, 49, 49]⟩, 0) else
 bif op == 67 then (op, ⟨#[48, 48, 49, 49, 48, 48, 48, 48, 48, 48, 49, 48, 48, 48, 48, 48, 48, 48, 48, 48, 48, 48, 48, 48, 48, 49, 49, 49, 48, 48, 49, 49]⟩, 0) else
 bif op == 68 then (op, ⟨#[48, 48, 48, 49, 48, 48, 48, 48, 48, 48, 49, 48, 48, 48, 48, 48, 48, 48, 48, 48, 48, 48, 48, 48, 48, 49, 49, 49, 48, 48, 49, 49]⟩, 0) else
 bif op == 69 then (op, ⟨#[48, 48, 48, 49, 48, 48, 48, 48, 48, 49, 48, 49, 48, 48, 48, 48, 48, 48, 48, 48, 48, 48, 48, 48, 48, 49, 49, 49, 48, 48, 49, 49]⟩, 0) else
 bif op == 70 then (op, ⟨#[48, 48, 48, 49, 48, 48, 49, 84, 84, 84, 84, 84, 83, 83, 83, 83, 83, 48, 48, 48, 48, 48, 48, 48, 48, 49, 49, 49, 48, 48, 49, 49]⟩, 0) else
 (0, ⟨#[]⟩, 0)
def shortRow00 (op : Int) : Int × ByteArray × Int :=
 bif op == 1 then (19, ⟨#[48, 48, 48, 102, 101, 106, 105, 104, 103, 99, 100, 68, 68, 68, 48, 48]⟩, 24) else
 bif op == 2 then (13, ⟨#[48, 49, 48, 102, 101, 100, 83, 83, 83, 99, 103, 68, 68, 68, 48, 48]⟩, 0) else
 bif op == 3 then (18, ⟨#[49, 49, 48, 102, 101, 100, 83, 83, 83, 99, 103, 84, 84, 84, 48, 48]⟩, 0) else
 (0, ⟨#[]⟩, 0)
def shortRow01 (op : Int) : Int × ByteArray × Int :=
 bif op == 4 then (19, ⟨#[48, 48, 48, 102, 66, 66, 66, 66, 66, 101, 100, 99, 98, 97, 48, 49]⟩, 1) else
 bif op == 5 then (3, ⟨#[48, 48, 49, 108, 101, 106, 105, 107, 103, 104, 100, 99, 98, 102, 48, 49]⟩, 3) else
 bif op == 6 then (19, ⟨#[48, 49, 48, 102, 68, 68, 68, 68, 68, 101, 100, 99, 98, 97, 48, 49]⟩, 1) else
 bif op == 7 then (19, ⟨#[48, 49, 49, 106, 48, 48, 48, 49, 48, 101, 103, 105, 104, 102, 48, 49]⟩, 29) else
 bif op == 8 then (1, ⟨#[48, 49, 49, 102, 68, 68, 68, 68, 68, 101, 100, 99, 98, 97, 48, 49]⟩, 273) else
 bif op == 9 then (26, ⟨#[49, 48, 48, 48, 48, 48, 66, 66, 66, 101, 100, 99, 98, 97, 48, 49]⟩, 0) else
 bif op == 10 then (27, ⟨#[49, 48, 48, 48, 48, 49, 66, 66, 66, 101, 100, 99, 98, 97, 48, 49]⟩, 0) else
 bif op == 11 then (24, ⟨#[49, 48, 48, 102, 49, 48, 66, 66, 66, 101, 100, 99, 98, 97, 48, 49]⟩, 1) else
 bif op == 12 then (29, ⟨#[49, 48, 48, 48, 49, 49, 66, 66, 66, 48, 48, 84, 84, 84, 48, 49]⟩, 0) else
 bif op == 13 then (33, ⟨#[49, 48, 48, 48, 49, 49, 66, 66, 66, 48, 49, 84, 84, 84, 48, 49]⟩, 0) else
 bif op == 14 then (36, ⟨#[49, 48, 48, 48, 49, 49, 66, 66, 66, 49, 48, 84, 84, 84, 48, 49]⟩, 0) else
 bif op == 15 then (37, ⟨#[49, 48, 48, 48, 49, 49, 66, 66, 66, 49, 49, 84, 84, 84, 48, 49]⟩, 0) else
 bif op == 16 then (3, ⟨#[49, 48, 49, 108, 101, 106, 105, 107, 103, 104, 100, 99, 98, 102, 48, 49]⟩, 1) else
 bif op == 17 then (5, ⟨#[49, 49, 48, 105, 101, 100, 83, 83, 83, 104, 103, 99, 98, 102, 48, 49]⟩, 1) else
 bif op == 18 then (6, ⟨#[49, 49, 49, 105, 101, 100, 83, 83, 83, 104, 103, 99, 98, 102, 48, 49]⟩, 1) else
 (0, ⟨#[]⟩, 0)
def shortRow10 (op : Int) : Int × ByteArray × Int :=
 bif op == 19 then (25, ⟨#[48, 48, 48, 48, 66, 66, 66, 66, 66, 101, 100, 99, 98, 97, 49, 48]⟩, 0) else
 bif op == 20 then (13, ⟨#[48, 49, 48, 102, 68, 68, 68, 68, 68, 101, 100, 99, 104, 103, 49, 48]⟩, 40) else
 bif op == 21 then (4, ⟨#[49, 48, 48, 48, 83, 83, 83, 83, 83, 48, 48, 48, 48, 48, 49, 48]⟩, 64) else
 bif op == 22 then (28, ⟨#[49, 48, 48, 48, 68, 68, 68, 68, 68, 84, 84, 84, 84, 84, 49, 48]⟩, 128) else
 bif op == 23 then (41, ⟨#[49, 48, 48, 49, 48, 48, 48, 48, 48, 48, 48, 48, 48, 48, 49, 48]⟩, 0) else
 bif op == 24 then (4, ⟨#[49, 48, 48, 49, 83, 83, 83, 83, 83, 48, 48, 48, 48, 48, 49, 48]⟩, 66) else
 bif op == 25 then (28, ⟨#[49, 48, 48, 49, 66, 66, 66, 66, 66, 84, 84, 84, 84, 84, 49, 48]⟩, 128) else
 bif op == 26 then (18, ⟨#[49, 49, 48, 102, 101, 100, 99, 104, 103, 84, 84, 84, 84, 84, 49, 48]⟩, 8) else
 (0, ⟨#[]⟩, 0)
def longRow (op : Int) : Int × ByteArray × Int :=
 bif decide (op <= 2) then upperRow op else
 bif decide (op <= 10) then jumpRow op else
 bif decide (op <= 18) then memoryRow op else
 bif decide (op <= 27) then immediateRow op else
 bif decide (op <= 37) then registerRow op else
 bif decide (op <= 41) then fenceRow op else
 bif decide (op <= 49) then productRow op else
 bif decide (op <= 60) then atomicRow op else
 systemRow op
def shortRow (op : Int) : Int × ByteArray × Int :=
 bif decide (op <= 3) then shortRow00 op else
 bif decide (op <= 18) then shortRow01 op else
 shortRow10 op
end Tab
def rowV (t : Int × ByteArray × Int) : Value := .agg #[.int .i64 t.1, .string t.2.1, .int .i64 t.2.2]
theorem i_upperRow (op : Int) (w : World) :
 CB 284 #[.int .i64 op] (rowV (Tab.upperRow op)) w := by
 go_enter func284, ntmps284
 go_wp2
 all_goals exact bodyPost_ret (v := rowV (Tab.upperRow op)) (by simp [results, results284, go_sem, rowV, Tab.upperRow, *]) rfl ⟨rfl, by repeat (first | exact Below.refl _ _ | refine Below.setCell ?_ (by simp) _ | refine Below.alloc ?_ (by simp) _)⟩
theorem i_jumpRow (op : Int) (w : World) :
 CB 285 #[.int .i64 op] (rowV (Tab.jumpRow op)) w := by
 go_enter func285, ntmps285
 go_wp2
 all_goals exact bodyPost_ret (v := rowV (Tab.jumpRow op)) (by simp [results, results285, go_sem, rowV, Tab.jumpRow, *]) rfl ⟨rfl, by repeat (first | exact Below.refl _ _ | refine Below.setCell ?_ (by simp) _ | refine Below.alloc ?_ (by simp) _)⟩
theorem i_memoryRow (op : Int) (w : World) :
 CB 286 #[.int .i64 op] (rowV (Tab.memoryRow op)) w := by
 go_enter func286, ntmps286
 go_wp2
 all_goals exact bodyPost_ret (v := rowV (Tab.memoryRow op)) (by simp [results, results286, go_sem, rowV, Tab.memoryRow, *]) rfl ⟨rfl, by repeat (first | exact Below.refl _ _ | refine Below.setCell ?_ (by simp) _ | refine Below.alloc ?_ (by simp) _)⟩
theorem i_immediateRow (op : Int) (w : World) :
 CB 287 #[.int .i64 op] (rowV (Tab.immediateRow op)) w := by
 go_enter func287, ntmps287
 go_wp2
 all_goals exact bodyPost_ret (v := rowV (Tab.immediateRow op)) (by simp [results, results287, go_sem, rowV, Tab.immediateRow, *]) rfl ⟨rfl, by repeat (first | exact Below.refl _ _ | refine Below.setCell ?_ (by simp) _ | refine Below.alloc ?_ (by simp) _)⟩
theorem i_registerRow (op : Int) (w : World) :
 CB 288 #[.int .i64 op] (rowV (Tab.registerRow op)) w := by
 go_enter func288, ntmps288
 go_wp2
 all_goals exact bodyPost_ret (v := rowV (Tab.registerRow op)) (by simp [results, results288, go_sem, rowV, Tab.registerRow, *]) rfl ⟨rfl, by repeat (first | exact Below.refl _ _ | refine Below.setCell ?_ (by simp) _ | refine Below.alloc ?_ (by simp) _)⟩
theorem i_fenceRow (op : Int) (w : World) :
 CB 289 #[.int .i64 op] (rowV (Tab.fenceRow op)) w := by
 go_enter func289, ntmps289
 go_wp2
 all_goals exact bodyPost_ret (v := rowV (Tab.fenceRow op)) (by simp [results, results289, go_sem, rowV, Tab.fenceRow, *]) rfl ⟨rfl, by repeat (first | exact Below.refl _ _ | refine Below.setCell ?_ (by simp) _ | refine Below.alloc ?_ (by simp) _)⟩
theorem i_productRow (op : Int) (w : World) :
 CB 290 #[.int .i64 op] (rowV (Tab.productRow op)) w := by
 go_enter func290, ntmps290
 go_wp2
 all_goals exact bodyPost_ret (v := rowV (Tab.productRow op)) (by simp [results, results290, go_sem, rowV, Tab.productRow, *]) rfl ⟨rfl, by repeat (first | exact Below.refl _ _ | refine Below.setCell ?_ (by simp) _ | refine Below.alloc ?_ (by simp) _)⟩
theorem i_atomicRow (op : Int) (w : World) :
 CB 291 #[.int .i64 op] (rowV (Tab.atomicRow op)) w := by
 go_enter func291, ntmps291
 go_wp2
 all_goals exact bodyPost_ret (v := rowV (Tab.atomicRow op)) (by simp [results, results291, go_sem, rowV, Tab.atomicRow, *]) rfl ⟨rfl, by repeat (first | exact Below.refl _ _ | refine Below.setCell ?_ (by simp) _ | refine Below.alloc ?_ (by simp) _)⟩
theorem i_systemRow (op : Int) (w : World) :
 CB 292 #[.int .i64 op] (rowV (Tab.systemRow op)) w := by
 go_enter func292, ntmps292
 go_wp2
 all_goals exact bodyPost_ret (v := rowV (Tab.systemRow op)) (by simp [results, results292, go_sem, rowV, Tab.systemRow, *]) rfl ⟨rfl, by repeat (first | exact Below.refl _ _ | refine Below.setCell ?_ (by simp) _ | refine Below.alloc ?_ (by simp) _)⟩
theorem i_shortRow00 (op : Int) (w : World) :
 CB 293 #[.int .i64 op] (rowV (Tab.shortRow00 op)) w := by
 go_enter func293, ntmps293
 go_wp2
 all_goals exact bodyPost_ret (v := rowV (Tab.shortRow00 op)) (by simp [results, results293, go_sem, rowV, Tab.shortRow00, *]) rfl ⟨rfl, by repeat (first | exact Below.refl _ _ | refine Below.setCell ?_ (by simp) _ | refine Below.alloc ?_ (by simp) _)⟩
theorem i_shortRow01 (op : Int) (w : World) :
 CB 294 #[.int .i64 op] (rowV (Tab.shortRow01 op)) w := by
 go_enter func294, ntmps294
 go_wp2
 all_goals exact bodyPost_ret (v := rowV (Tab.shortRow01 op)) (by simp [results, results294, go_sem, rowV, Tab.shortRow01, *]) rfl ⟨rfl, by repeat (first | exact Below.refl _ _ | refine Below.setCell ?_ (by simp) _ | refine Below.alloc ?_ (by simp) _)⟩
theorem i_shortRow10 (op : Int) (w : World) :
 CB 295 #[.int .i64 op] (rowV (Tab.shortRow10 op)) w := by
 go_enter func295, ntmps295
 go_wp2
 all_goals exact bodyPost_ret (v := rowV (Tab.shortRow10 op)) (by simp [results, results295, go_sem, rowV, Tab.shortRow10, *]) rfl ⟨rfl, by repeat (first | exact Below.refl _ _ | refine Below.setCell ?_ (by simp) _ | refine Below.alloc ?_ (by simp) _)⟩
end Go.Proofs.YtmlgonbhoknoiabGreatDoor
