import Derived.Test.YtmlgonbhoknoiabGreatDoorYAC
set_option maxHeartbeats 8000000
set_option linter.all false
namespace Go.Proofs.YtmlgonbhoknoiabGreatDoor
open Go.RowKit Go.Proofs.Tryz
section
attribute [local go_sem ↓] Go.wp_at_zero Go.wp_at_succ
theorem XAt.box {w w' : World} {mb rb : Nat} {X : XS} (h : XAt w mb rb X) (b : Nat) (hk : Kept [b] w w') (h1 : mb < b) (h2 : rb < b) : XAt w' mb rb X := h.more hk (by simp; omega) (by simp; omega)
theorem alloc_nef (w : World) (o : Obj) (b k : Nat) (h : ¬ b = w.heap.size) : (w.alloc o).frozen? ⟨b, k, none⟩ = w.frozen? ⟨b, k, none⟩ := by
 by_cases hb : b < w.heap.size
 . exact ((Kept.refl [] w).alloc o).frozen (p := ⟨b, k, none⟩) hb (by simp)
 . simp only [World.frozen?, World.alloc]
   rw [Array.getElem?_push, if_neg h]
theorem mrk_lt (e k : Nat) (he : e < 4294967296) : mrkD e k < 4294967296 := by
 unfold mrkD
 split
 . exact nat_or_lt _ _ 32 (nat_or_lt _ _ 32 he (by decide)) (by decide)
 . exact nat_or_lt _ _ 32 he (by decide)
theorem x_mark (mb rb : Nat) (X : XS) (hram : X.b.ram.length <= 65536) (l : Lf) (k p : Nat) (hp : l.a = 2147483648 + p) (hl : p + 4 <= X.b.ram.length) (he : l.e < 4294967296) (w) (hw : Hid (XAt w mb rb X)) :
 CX 334 #[.pointer (some ⟨mb, 0, none⟩), lfV l, .int .i64 k] (.tuple #[]) [rb] mb rb (setRam X (stN X.b.ram p 4 (mrkD l.e k))) w := by
 obtain ⟨a, e, ip, f⟩ := l
 dsimp only at hp he |-
 unfold lfV
 dsimp only
 have p1 : bits .or .i64 (e : Int) 64 = ((e ||| 64 : Nat) : Int) := b_or e 64 (by omega) (by omega)
 have l1 : (e ||| 64) < 4294967296 := nat_or_lt _ _ 32 he (by decide)
 have hml := mrk_lt e k he
 obtain ⟨e1, h1⟩ := zn1 (e ||| 64)
 rw [<- h1] at p1 l1
 have p2 : bits .or .i64 (e1 : Int) 128 = ((e1 ||| 128 : Nat) : Int) := b_or e1 128 (by omega) (by omega)
 have hm : mrkD e k = if k = 2 then e1 ||| 128 else e1 := by rw [h1]; rfl
 obtain ⟨M, hM⟩ := zn1 (mrkD e k)
 rw [<- hM] at hm hml |-
 have S : ∀ W, Hid (XAt W mb rb X) -> CX 346 #[.pointer (some ⟨mb, 0, none⟩), .int .i64 a, .int .i64 4, .int .i64 M] (.tuple #[]) [rb] mb rb (setRam X (stN X.b.ram p 4 M)) W := fun W h => x_setRamNumber_yes mb rb X hram a p 4 (by omega) (by omega) (by omega) hl M hml W h
 have HS := hide1 S
 have hwa : Hid (XAt (w.alloc (.cells #[.int .i64 a, .int .i64 e, .int .i64 ip] 252)) mb rb X) := zq10
 clear S h1 hM hw hp
 by_cases hk : k = 2
 . subst hk
   rw [if_pos rfl] at hm
   rw [<- hm] at p2
   clear hm
   exact zq236
 . rw [if_neg hk] at hm
   subst hm
   have q : ((k : Int) == 2) = false := by simp; omega
   have q' : (k == 2) = false := by simp; omega
   exact zq236
def trV (t : (Nat × Nat) × BusS) (va k : Nat) : Value := if t.1.2 = 0 then .tuple #[.int .i64 t.1.1, .agg #[.int .i64 (-1), .int .i64 0]] else .tuple #[.int .i64 0, .agg #[.int .i64 (xfauD t.1.2 k), .int .i64 va]]
theorem xacts_lt (X : XS) (hX : XOk X) (k : Int) : actsD (xC X) k = 0 \/ actsD (xC X) k = 1 \/ actsD (xC X) k = 3 := by
 have h1 := hX.mode
 have h2 := hX.mpp
 unfold actsD xC
 dsimp only
 repeat' split
 all_goals omega
theorem andip (va ip : Nat) (h : ip = 4095 \/ ip = 4194303) : bits .and .i64 (va : Int) (ip : Int) = ((va % (ip + 1) : Nat) : Int) := by
 rcases h with rfl | rfl
 . have := and_mask (va : Int) 12 (by decide)
   have e : ((2 : Int) ^ 12) = 4096 := by decide
   have e2 : ((2 ^ 12 - 1 : Nat) : Int) = ((4095 : Nat) : Int) := by decide
   exact zq212
 . have := and_mask (va : Int) 22 (by decide)
   have e : ((2 : Int) ^ 22) = 4194304 := by decide
   have e2 : ((2 ^ 22 - 1 : Nat) : Int) = ((4194303 : Nat) : Int) := by decide
   exact zq212
theorem x_translate_off (mb rb X) (hX : XOk X) (va k : Nat) (hp : pgD (xC X) k = false) (w) (hw : Hid (XAt w mb rb X)) :
 CK 260 #[.pointer (some ⟨mb, 0, none⟩), .int .i64 va, .int .i64 k] (.tuple #[.int .i64 va, .agg #[.int .i64 (-1), .int .i64 0]]) w := by
 have hlt := hw.out.lt
 have c56 := hw.out.c56
 have hsa := hX.satp
 have hac := xacts_lt X hX k
 have AM := hide1 (fun W h => x_accessMode mb rb X hX.mstatus k W h)
 have hwa : Hid (XAt (w.alloc (.cells #[.int .i64 0, .int .i64 0] 118)) mb rb X) := zq10
 unfold pgD at hp
 have hsp : (xC X).satp = X.c.satp := rfl
 rw [hsp] at hp
 obtain ⟨sa, hsat⟩ := zn1 (X.c.satp)
 rw [<- hsat] at c56 hsa hp
 obtain ⟨m, hm⟩ := zn1 (actsD (xC X) k)
 simp only [<- hm] at hac hp AM
 have s1 : bits .and .i64 (sa : Int) 2147483648 = ((sa &&& 2147483648 : Nat) : Int) := zq11
 have s2 := eq0 (sa &&& 2147483648)
 rw [show decide (sa &&& 2147483648 = 0) = !bitN sa 31 from t_bit sa 31, <- s1] at s2
 clear hm hsat hw hsp s1 hX
 by_cases h3 : m = 3
 . subst h3
   clear hp hac s2
   exact zq237
 . have q : ((m : Int) == 3) = false := by simp; omega
   have q' : (m == 3) = false := by simp; omega
   rw [if_pos (by simp; omega)] at hp
   have hb : bitN sa 31 = false := zq12
   rw [hb] at s2
   clear hp hac hb h3
   exact zq237
theorem x_translate_f (mb rb X) (hX : XOk X) (va k : Nat) (hva : va < 4294967296) (hp : pgD (xC X) k = true) (hf : (wkD X.b X.c.satp va).f ≠ 0) (w) (hw : Hid (XAt w mb rb X)) :
 CK 260 #[.pointer (some ⟨mb, 0, none⟩), .int .i64 va, .int .i64 k] (.tuple #[.int .i64 0, .agg #[.int .i64 (xfauD (wkD X.b X.c.satp va).f k), .int .i64 va]]) w := by
 have hlt := hw.out.lt
 have hrlt := hw.out.rlt
 have c56 := hw.out.c56
 have hsa := hX.satp
 have hac := xacts_lt X hX k
 have AM := hide1 (fun W h => x_accessMode mb rb X hX.mstatus k W h)
 have WK := hide1 (fun W h => x_walk mb rb X hX.b.ram hX.satp va hva W h)
 have hwa : Hid (XAt (w.alloc (.cells #[.int .i64 0, .int .i64 0] 118)) mb rb X) := zq10
 unfold pgD at hp
 have hsp : (xC X).satp = X.c.satp := rfl
 rw [hsp] at hp
 obtain ⟨sa, hsat⟩ := zn1 (X.c.satp)
 rw [<- hsat] at c56 hsa hp
 obtain ⟨m, hm⟩ := zn1 (actsD (xC X) k)
 simp only [<- hm] at hac hp AM
 have hm3 : m < 3 := by
  by_cases h : m < 3
  . exact h
  . exact zq238
 have hm01 : m = 0 \/ m = 1 := by omega
 rw [if_pos (by simpa using hm3)] at hp
 have s1 : bits .and .i64 (sa : Int) 2147483648 = ((sa &&& 2147483648 : Nat) : Int) := zq11
 have s2 := eq0 (sa &&& 2147483648)
 rw [show decide (sa &&& 2147483648 = 0) = !bitN sa 31 from t_bit sa 31, <- s1] at s2
 have hb : bitN sa 31 = true := zq12
 rw [hb] at s2
 have q : ((m : Int) == 3) = false := by simp; omega
 have q' : (m == 3) = false := by simp; omega
 simp only [<- hsat] at WK
 rw [<- hsat] at hf |-
 obtain ⟨l, hl⟩ := zn1 (wkD X.b sa va)
 simp only [<- hl] at WK
 rw [<- hl] at hf |-
 clear hl hw hX
 clear hm hsat hsp s1 hb hp hac hm3
 obtain ⟨la, le, li, lff⟩ := l
 unfold lfV at WK
 dsimp only at WK hf |-
 have f1 : ((lff : Int) == 0) = false := by simp; omega
 have f1' : (lff == 0) = false := by simp; omega
 have f2 : ((lff : Int) != 0) = true := by simp; omega
 have f2' : (lff != 0) = true := by simp; omega
 go_enter func260, ntmps260
 go_wp2_with (first | (go_at_call 331; refine (AM.out _ hwa).mono ?_; rintro o w1 ⟨rfl, rfl⟩))
 refine (WK.out _ hwa).mono ?_
 rintro o w1 ⟨rfl, hk1⟩
 obtain ⟨k1, g1⟩ := hk1.box w.heap.size zq492 (by simp)
 have hz : w.heap.size < w1.heap.size := Nat.lt_of_lt_of_le (by simp) hk1.size
 go_wp2_with (first | (go_at_call 274; refine (x_faultCause _ _ _).mono ?_; rintro o w1 ⟨rfl, rfl⟩))
 exact bodyPost_ret (v := .tuple #[.int .i64 0, .agg #[.int .i64 (xfauD lff k), .int .i64 va]]) zq502 rfl ⟨rfl, zq500⟩
theorem x_translate_n (mb rb X) (hX : XOk X) (va k : Nat) (hva : va < 4294967296) (hkk : k = 0 \/ k = 1 \/ k = 2) (hp : pgD (xC X) k = true) (hf : (wkD X.b X.c.satp va).f = 0) (ha : allD (xC X) (wkD X.b X.c.satp va).e k (actsD (xC X) k) = false) (w) (hw : Hid (XAt w mb rb X)) :
 CK 260 #[.pointer (some ⟨mb, 0, none⟩), .int .i64 va, .int .i64 k] (.tuple #[.int .i64 0, .agg #[.int .i64 (xfauD 1 k), .int .i64 va]]) w := by
 have hlt := hw.out.lt
 have hrlt := hw.out.rlt
 have c56 := hw.out.c56
 have hsa := hX.satp
 have hac := xacts_lt X hX k
 have AM := hide1 (fun W h => x_accessMode mb rb X hX.mstatus k W h)
 have WK := hide1 (fun W h => x_walk mb rb X hX.b.ram hX.satp va hva W h)
 have hwa : Hid (XAt (w.alloc (.cells #[.int .i64 0, .int .i64 0] 118)) mb rb X) := zq10
 unfold pgD at hp
 have hsp : (xC X).satp = X.c.satp := rfl
 rw [hsp] at hp
 obtain ⟨sa, hsat⟩ := zn1 (X.c.satp)
 rw [<- hsat] at c56 hsa hp
 obtain ⟨m, hm⟩ := zn1 (actsD (xC X) k)
 simp only [<- hm] at hac hp AM
 have hm3 : m < 3 := by
  by_cases h : m < 3
  . exact h
  . exact zq238
 have hm01 : m = 0 \/ m = 1 := by omega
 rw [if_pos (by simpa using hm3)] at hp
 have s1 : bits .and .i64 (sa : Int) 2147483648 = ((sa &&& 2147483648 : Nat) : Int) := zq11
 have s2 := eq0 (sa &&& 2147483648)
 rw [show decide (sa &&& 2147483648 = 0) = !bitN sa 31 from t_bit sa 31, <- s1] at s2
 have hb : bitN sa 31 = true := zq12
 rw [hb] at s2
 have q : ((m : Int) == 3) = false := by simp; omega
 have q' : (m == 3) = false := by simp; omega
 simp only [<- hsat] at WK
 have hle := (wk_a X.b X.c.satp va hva hf).2.2.2.1
 rw [<- hsat] at hf hle ha
 obtain ⟨l, hl⟩ := zn1 (wkD X.b sa va)
 simp only [<- hl] at WK
 rw [<- hl] at hf hle ha
 rw [<- hm] at ha
 have PM := hide1 (fun W h => x_permits mb rb X hX.mstatus l.e m k hle hm01 hkk W h)
 simp only [ha] at PM
 clear hl hw hX ha hkk
 clear hm hsat hsp s1 hb hp hac hm3
 obtain ⟨la, le, li, lff⟩ := l
 dsimp only at hf
 subst hf
 unfold lfV at WK
 dsimp only at WK PM |-
 go_enter func260, ntmps260
 go_wp2_with (first | (go_at_call 331; refine (AM.out _ hwa).mono ?_; rintro o w1 ⟨rfl, rfl⟩))
 refine (WK.out _ hwa).mono ?_
 rintro o w1 ⟨rfl, hk1⟩
 obtain ⟨k1, g1⟩ := hk1.box w.heap.size zq492 (by simp)
 have hz : w.heap.size < w1.heap.size := Nat.lt_of_lt_of_le (by simp) hk1.size
 have hx1 : Hid (XAt (w1.alloc (.cells #[.int .i64 la, .int .i64 le, .int .i64 li] 252)) mb rb X) := hide1 ((hwa.out.kept hk1).alloc _)
 go_wp2_with (first | (go_at_call 333; refine (PM.out _ hx1).mono ?_; rintro o w1 ⟨rfl, rfl⟩) | (go_at_call 274; refine (x_faultCause _ _ _).mono ?_; rintro o w1 ⟨rfl, rfl⟩))
 exact bodyPost_ret (v := .tuple #[.int .i64 0, .agg #[.int .i64 (xfauD 1 k), .int .i64 va]]) zq502 rfl ⟨rfl, zq500⟩
theorem x_translate_y (mb rb X) (hX : XOk X) (va k : Nat) (hva : va < 4294967296) (hkk : k = 0 \/ k = 1 \/ k = 2) (hp : pgD (xC X) k = true) (hf : (wkD X.b X.c.satp va).f = 0) (ha : allD (xC X) (wkD X.b X.c.satp va).e k (actsD (xC X) k) = true) (w) (hw : Hid (XAt w mb rb X)) :
 CX 260 #[.pointer (some ⟨mb, 0, none⟩), .int .i64 va, .int .i64 k] (.tuple #[.int .i64 (((wkD X.b X.c.satp va).e / 1024 * 4096 + va % ((wkD X.b X.c.satp va).ip + 1) : Nat) : Int), .agg #[.int .i64 (-1), .int .i64 0]]) [rb] mb rb (setRam X (stN X.b.ram ((wkD X.b X.c.satp va).a - 2147483648) 4 (mrkD (wkD X.b X.c.satp va).e k))) w := by
 have hlt := hw.out.lt
 have hrlt := hw.out.rlt
 have c56 := hw.out.c56
 have hsa := hX.satp
 have hac := xacts_lt X hX k
 have AM := hide1 (fun W h => x_accessMode mb rb X hX.mstatus k W h)
 have WK := hide1 (fun W h => x_walk mb rb X hX.b.ram hX.satp va hva W h)
 have hwa : Hid (XAt (w.alloc (.cells #[.int .i64 0, .int .i64 0] 118)) mb rb X) := zq10
 unfold pgD at hp
 have hsp : (xC X).satp = X.c.satp := rfl
 rw [hsp] at hp
 obtain ⟨sa, hsat⟩ := zn1 (X.c.satp)
 rw [<- hsat] at c56 hsa hp
 obtain ⟨m, hm⟩ := zn1 (actsD (xC X) k)
 simp only [<- hm] at hac hp AM
 have hm3 : m < 3 := by
  by_cases h : m < 3
  . exact h
  . exact zq238
 have hm01 : m = 0 \/ m = 1 := by omega
 rw [if_pos (by simpa using hm3)] at hp
 have s1 : bits .and .i64 (sa : Int) 2147483648 = ((sa &&& 2147483648 : Nat) : Int) := zq11
 have s2 := eq0 (sa &&& 2147483648)
 rw [show decide (sa &&& 2147483648 = 0) = !bitN sa 31 from t_bit sa 31, <- s1] at s2
 have hb : bitN sa 31 = true := zq12
 rw [hb] at s2
 have q : ((m : Int) == 3) = false := by simp; omega
 have q' : (m == 3) = false := by simp; omega
 simp only [<- hsat] at WK
 obtain ⟨wa1, wa2, wa3, hle, hip⟩ := wk_a X.b X.c.satp va hva hf
 rw [<- hsat] at hf hle ha wa1 wa2 hip |-
 obtain ⟨l, hl⟩ := zn1 (wkD X.b sa va)
 simp only [<- hl] at WK
 rw [<- hl] at hf hle ha wa1 wa2 hip |-
 rw [<- hm] at ha
 have PM := hide1 (fun W h => x_permits mb rb X hX.mstatus l.e m k hle hm01 hkk W h)
 simp only [ha] at PM
 obtain ⟨p, hpp⟩ := zn1 (l.a - 2147483648)
 have hpa : l.a = 2147483648 + p := by omega
 rw [<- hpp] at wa2 |-
 have MK := hide1 (fun W h => x_mark mb rb X hX.b.ram l k p hpa wa2 hle W h)
 have PA := fun W => hide1 (x_pageAddress l.e hle W)
 have AI := andip va l.ip hip
 obtain ⟨g, hg⟩ := zn1 (l.e / 1024 * 4096)
 obtain ⟨r, hr⟩ := zn1 (va % (l.ip + 1))
 have hgl : g < 17179869184 := by omega
 have hrl : r < 4294967296 := by have := Nat.mod_le va (l.ip + 1); omega
 simp only [<- hg] at PA
 rw [<- hr] at AI
 rw [<- hg, <- hr]
 have wr : IntKind.i64.wrap ((g : Int) + (r : Int)) = ((g + r : Nat) : Int) := zq9
 clear hl hw hX ha hkk hg hr hpp hpa hip wa1 wa2
 clear hm hsat hsp s1 hb hp hac hm3
 obtain ⟨Y, hY⟩ := zn1 (setRam X (stN X.b.ram p 4 (mrkD l.e k)))
 simp only [<- hY] at MK |-
 clear hY
 obtain ⟨la, le, li, lff⟩ := l
 dsimp only at hf
 subst hf
 unfold lfV at WK
 dsimp only at WK PM |-
 go_enter func260, ntmps260
 go_wp2_with (first | (go_at_call 331; refine (AM.out _ hwa).mono ?_; rintro o w1 ⟨rfl, rfl⟩))
 refine (WK.out _ hwa).mono ?_
 rintro o w1 ⟨rfl, hk1⟩
 obtain ⟨k1, g1⟩ := hk1.box w.heap.size zq492 (by simp)
 have hz : w.heap.size < w1.heap.size := Nat.lt_of_lt_of_le (by simp) hk1.size
 have hx1 : Hid (XAt (w1.alloc (.cells #[.int .i64 la, .int .i64 le, .int .i64 li] 252)) mb rb X) := hide1 ((hwa.out.kept hk1).alloc _)
 unfold lfV at MK
 dsimp only at MK AI PA
 go_upto_region 10 with (first | (go_at_call 333; refine (PM.out _ hx1).mono ?_; rintro o w1 ⟨rfl, rfl⟩) | (go_at_call 334; refine (MK.out _ hx1).mono ?_; rintro o w2 ⟨rfl, hx2, hk2⟩; obtain ⟨k2, g2⟩ := hk2.box w1.heap.size zq492 zq492; obtain ⟨k3, g3⟩ := hk2.box w.heap.size zq492 zq492; have hz2 : w1.heap.size < w2.heap.size := Nat.lt_of_lt_of_le (by simp) hk2.size; have r0 : w2.cell? ⟨w.heap.size, 0, none⟩ = some (.int .i64 0) := (k3 0).trans ((alloc_ne _ _ _ _ (by omega)).trans ((k1 0).trans (by simp))); have r1 : w2.cell? ⟨w.heap.size, 1, none⟩ = some (.int .i64 0) := (k3 1).trans ((alloc_ne _ _ _ _ (by omega)).trans ((k1 1).trans (by simp))); have rf : ∀ o, w2.frozen? ⟨w.heap.size, o, none⟩ = false := (fun o => (g3 o).trans ((alloc_nef _ _ _ _ (by omega)).trans ((g1 o).trans (by simp)))); have l1 : w2.cell? ⟨w1.heap.size, 1, none⟩ = some (.int .i64 le) := (k2 1).trans (by simp); have l2 : w2.cell? ⟨w1.heap.size, 2, none⟩ = some (.int .i64 li) := (k2 2).trans (by simp); clear k2 k3 k1 g1 g2 g3; have hz3 : w.heap.size < w2.heap.size := Nat.lt_trans hz hz2))
 go_region_with (first | (go_at_call 335; refine (PA _).out.mono ?_; rintro o w3 ⟨rfl, rfl⟩) | (go_at_call 198; refine (x_fine _).mono ?_; rintro o w3 ⟨rfl, rfl⟩))
 all_goals
  go_wp2_with fail
  refine bodyPost_ret (v := .tuple #[.int .i64 ((g + r : Nat) : Int), .agg #[.int .i64 (-1), .int .i64 0]]) (by simp [results, results260, go_sem, r0, r1, hz3, Nat.ne_of_lt, Nat.ne_of_gt]) rfl ⟨rfl, hx2.box w.heap.size ?_ hlt hrlt, ?_⟩
  . exact zq239
  . repeat (first | (with_reducible exact Kept.refl _ _) | (with_reducible refine Kept.setCell ?_ (Or.inr zq492) _) | (with_reducible refine Kept.drew ?_) | (with_reducible refine Kept.alloc ?_ _) | (with_reducible refine Kept.trans ?_ hk2) | (with_reducible refine Kept.trans ?_ (hk1.mono (by simp))))
theorem x_translate (mb rb X) (hX : XOk X) (va k : Nat) (hva : va < 4294967296) (hkk : k = 0 \/ k = 1 \/ k = 2) (w) (hw : Hid (XAt w mb rb X)) :
 CX 260 #[.pointer (some ⟨mb, 0, none⟩), .int .i64 va, .int .i64 k] (trV (trD X.b (xC X) va k) va k) [rb] mb rb (X.withB (trD X.b (xC X) va k).2) w := by
 cases hp : pgD (xC X) k with
 | false =>
  have e : trD X.b (xC X) va k = ((va, 0), X.b) := by unfold trD; rw [hp]; rfl
  rw [e]
  refine (x_translate_off mb rb X hX va k hp w hw).mono ?_
  rintro o w1 ⟨rfl, hk⟩
  exact ⟨rfl, hw.out.kept hk, hk.mono (by simp)⟩
 | true =>
  have e : trD X.b (xC X) va k = trX X.b (xC X) (wkD X.b X.c.satp va) va k (actsD (xC X) k) := by
   unfold trD; rw [hp, if_pos rfl]; exact trX_eq X.b (xC X) X.c.satp va k _ hva
  rw [e]
  by_cases hf : (wkD X.b X.c.satp va).f = 0
  . cases ha : allD (xC X) (wkD X.b X.c.satp va).e k (actsD (xC X) k) with
    | false =>
     have e2 : trX X.b (xC X) (wkD X.b X.c.satp va) va k (actsD (xC X) k) = ((0, 1), X.b) := by unfold trX; rw [if_pos hf, ha]; rfl
     rw [e2]
     refine (x_translate_n mb rb X hX va k hva hkk hp hf ha w hw).mono ?_
     rintro o w1 ⟨rfl, hk⟩
     exact ⟨rfl, hw.out.kept hk, hk.mono (by simp)⟩
    | true =>
     have e2 : trX X.b (xC X) (wkD X.b X.c.satp va) va k (actsD (xC X) k) = (((wkD X.b X.c.satp va).e / 1024 * 4096 + va % ((wkD X.b X.c.satp va).ip + 1), 0), { X.b with ram := stN X.b.ram ((wkD X.b X.c.satp va).a - 2147483648) 4 (mrkD (wkD X.b X.c.satp va).e k) }) := by unfold trX; rw [if_pos hf, ha]; rfl
     rw [e2]
     refine (x_translate_y mb rb X hX va k hva hkk hp hf ha w hw).mono ?_
     rintro o w1 ⟨rfl, hx, hk⟩
     exact ⟨rfl, hx, hk⟩
  . have e2 : trX X.b (xC X) (wkD X.b X.c.satp va) va k (actsD (xC X) k) = ((0, (wkD X.b X.c.satp va).f), X.b) := by unfold trX; rw [if_neg hf]
    rw [e2]
    refine (x_translate_f mb rb X hX va k hva hp hf w hw).mono ?_
    rintro o w1 ⟨rfl, hk⟩
    refine ⟨?_, hw.out.kept hk, hk.mono (by simp)⟩
    unfold trV
    dsimp only
    rw [if_neg hf]
end
end Go.Proofs.YtmlgonbhoknoiabGreatDoor
