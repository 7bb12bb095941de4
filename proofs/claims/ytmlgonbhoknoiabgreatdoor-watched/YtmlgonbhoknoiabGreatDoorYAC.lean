import Derived.Test.YtmlgonbhoknoiabGreatDoorYAB
set_option maxHeartbeats 8000000
set_option linter.all false
namespace Go.Proofs.YtmlgonbhoknoiabGreatDoor
open Go.RowKit Go.Proofs.Tryz
structure Lf where
 a : Nat
 e : Nat
 ip : Nat
 f : Nat
def lf0 (f : Nat) : Lf := ⟨0, 0, 0, f⟩
def lfV (l : Lf) : Value := .agg #[.int .i64 l.a, .int .i64 l.e, .int .i64 l.ip]
def secD (B : BusS) (p va : Nat) : Lf :=
 if p &&& 208 = 0 then
  (if (tabD B (p / 1024 * 4096 + 4 * (va / 4096 % 1024))).2 = 0 then
    (if (tabD B (p / 1024 * 4096 + 4 * (va / 4096 % 1024))).1 &&& 10 = 0 then lf0 1 else ⟨p / 1024 * 4096 + 4 * (va / 4096 % 1024), (tabD B (p / 1024 * 4096 + 4 * (va / 4096 % 1024))).1, 4095, 0⟩)
   else lf0 (tabD B (p / 1024 * 4096 + 4 * (va / 4096 % 1024))).2)
 else lf0 1
def wkD (B : BusS) (satp va : Nat) : Lf :=
 if (tabD B (satp % 4194304 * 4096 + 4 * (va / 4194304))).2 = 0 then
  (if (tabD B (satp % 4194304 * 4096 + 4 * (va / 4194304))).1 &&& 10 = 0 then secD B (tabD B (satp % 4194304 * 4096 + 4 * (va / 4194304))).1 va
   else if (tabD B (satp % 4194304 * 4096 + 4 * (va / 4194304))).1 / 1024 * 4096 % 4194304 = 0 then ⟨satp % 4194304 * 4096 + 4 * (va / 4194304), (tabD B (satp % 4194304 * 4096 + 4 * (va / 4194304))).1, 4194303, 0⟩ else lf0 1)
 else lf0 (tabD B (satp % 4194304 * 4096 + 4 * (va / 4194304))).2
theorem tab_lt (B : BusS) (a : Nat) : (tabD B a).1 < 4294967296 := by
 unfold tabD
 have := entE_lt B a
 exact zq205
theorem x_walkSecond (mb rb : Nat) (X : XS) (hram : X.b.ram.length <= 65536) (p va : Nat) (hp : p < 4294967296) (hva : va < 4294967296) (w) (hw : Hid (XAt w mb rb X)) :
 CK 377 #[.pointer (some ⟨mb, 0, none⟩), .int .i64 p, .int .i64 va] (.tuple #[lfV (secD X.b p va), .int .i64 (secD X.b p va).f]) w := by
 have p1 : bits .and .i64 (p : Int) 208 = ((p &&& 208 : Nat) : Int) := b_and p 208 (by omega) (by omega)
 have p2 := ne0 (p &&& 208)
 rw [<- p1] at p2
 unfold secD
 obtain ⟨a, ha⟩ := zn1 (p / 1024 * 4096 + 4 * (va / 4096 % 1024))
 have hal : a < 68719476736 := by omega
 have TE : ∀ W, Hid (XAt W mb rb X) -> CS 375 #[.pointer (some ⟨mb, 0, none⟩), .int .i64 a] (.tuple #[.int .i64 (tabD X.b a).1, .int .i64 (tabD X.b a).2]) W := fun W h => x_tableEntry mb rb X hram a hal W h
 have PA := fun W => hide1 (x_pageAddress p hp W)
 rw [<- ha]
 obtain ⟨g, hg⟩ := zn1 (p / 1024 * 4096)
 rw [<- hg] at ha
 simp only [<- hg] at PA
 have hgl : g < 17179869184 := by omega
 have a1 : (g : Int) + 4 * ((va : Int) / 4096 % 1024) = (a : Int) := by omega
 have hte := tab_lt X.b a
 obtain ⟨t, f, htf⟩ : ∃ t f, tabD X.b a = (t, f) := ⟨_, _, rfl⟩
 rw [htf] at hte |-
 simp only [htf] at TE
 dsimp only at hte TE |-
 have IP := fun W => hide1 (x_isPointer t hte W)
 have HTE := hide1 TE
 have hwa : Hid (XAt (w.alloc (.cells #[.int .i64 0, .int .i64 0, .int .i64 0] 252)) mb rb X) := zq10
 have f1 : ((f : Int) != 0) = !decide (f = 0) := ne0 f
 clear TE p1 hg ha htf hal hram hp hte
 by_cases h : p &&& 208 = 0
 . rw [if_pos h]
   rw [decide_eq_true h] at p2
   by_cases h2 : f = 0
   . rw [if_pos h2]
     rw [decide_eq_true h2] at f1
     by_cases h3 : t &&& 10 = 0
     . rw [if_pos h3]
       simp only [decide_eq_true h3] at IP
       unfold lfV lf0
       clear h h2 h3
       exact zq235
     . rw [if_neg h3]
       simp only [decide_eq_false h3] at IP
       unfold lfV
       clear h h2 h3
       go_enter func377, ntmps377
       go_wp2_with (first | (go_at_call 335; refine (PA _).out.mono ?_; rintro o w1 ⟨rfl, rfl⟩) | (go_at_call 375; refine (HTE.out _ hwa).mono ?_; rintro o w1 ⟨rfl, rfl⟩) | (go_at_call 376; refine (IP _).out.mono ?_; rintro o w1 ⟨rfl, rfl⟩))
       exact bodyPost_ret (v := .tuple #[.agg #[.int .i64 a, .int .i64 t, .int .i64 4095], .int .i64 0]) zq499 rfl ⟨rfl, zq494⟩
   . rw [if_neg h2]
     rw [decide_eq_false h2] at f1
     unfold lfV lf0
     clear h h2
     go_enter func377, ntmps377
     go_wp2_with (first | (go_at_call 335; refine (PA _).out.mono ?_; rintro o w1 ⟨rfl, rfl⟩) | (go_at_call 375; refine (HTE.out _ hwa).mono ?_; rintro o w1 ⟨rfl, rfl⟩) | (go_at_call 376; refine (IP _).out.mono ?_; rintro o w1 ⟨rfl, rfl⟩))
     exact bodyPost_ret (v := .tuple #[.agg #[.int .i64 0, .int .i64 0, .int .i64 0], .int .i64 f]) zq499 rfl ⟨rfl, zq494⟩
 . rw [if_neg h]
   rw [decide_eq_false h] at p2
   unfold lfV lf0
   clear h
   exact zq235
theorem x_walk (mb rb : Nat) (X : XS) (hram : X.b.ram.length <= 65536) (hsa : X.c.satp < 4294967296) (va : Nat) (hva : va < 4294967296) (w) (hw : Hid (XAt w mb rb X)) :
 CK 332 #[.pointer (some ⟨mb, 0, none⟩), .int .i64 va] (.tuple #[lfV (wkD X.b X.c.satp va), .int .i64 (wkD X.b X.c.satp va).f]) w := by
 have c56 := hw.out.c56
 have hlt := hw.out.lt
 have hwa : Hid (XAt (w.alloc (.cells #[.int .i64 0, .int .i64 0, .int .i64 0] 252)) mb rb X) := zq10
 obtain ⟨sa, hsat⟩ := zn1 (X.c.satp)
 rw [<- hsat] at c56 hsa |-
 have s1 : bits .and .i64 (sa : Int) 4194303 = ((sa % 4194304 : Nat) : Int) := by
  have := and_mask (sa : Int) 22 (by decide)
  have e : ((2 : Int) ^ 22) = 4194304 := by decide
  have e2 : ((2 ^ 22 - 1 : Nat) : Int) = 4194303 := by decide
  rw [e, e2] at this
  rw [this]; simp
 unfold wkD
 obtain ⟨a, ha⟩ := zn1 (sa % 4194304 * 4096 + 4 * (va / 4194304))
 have hal : a < 68719476736 := by omega
 have TE : ∀ W, Hid (XAt W mb rb X) -> CS 375 #[.pointer (some ⟨mb, 0, none⟩), .int .i64 a] (.tuple #[.int .i64 (tabD X.b a).1, .int .i64 (tabD X.b a).2]) W := fun W h => x_tableEntry mb rb X hram a hal W h
 rw [<- ha]
 obtain ⟨g, hg⟩ := zn1 (sa % 4194304)
 rw [<- hg] at ha s1
 have hgl : g < 4194304 := by omega
 have a1 : (g : Int) * 4096 + 4 * ((va : Int) / 4194304) = (a : Int) := by omega
 have hte := tab_lt X.b a
 obtain ⟨t, f, htf⟩ : ∃ t f, tabD X.b a = (t, f) := ⟨_, _, rfl⟩
 rw [htf] at hte |-
 simp only [htf] at TE
 dsimp only at hte TE |-
 have IP := fun W => hide1 (x_isPointer t hte W)
 have PA := fun W => hide1 (x_pageAddress t hte W)
 have WS := hide1 (fun W h => x_walkSecond mb rb X hram t va hte hva W h)
 have HTE := hide1 TE
 have f1 : ((f : Int) != 0) = !decide (f = 0) := ne0 f
 obtain ⟨pg, hpg⟩ := zn1 (t / 1024 * 4096)
 have hpl : pg < 17179869184 := by omega
 simp only [<- hpg] at PA |-
 have m1 : ((pg : Int) % 4194304 != 0) = !decide (pg % 4194304 = 0) := by
  rw [<- ne0]; simp
 clear TE hg ha htf hal hram hte hpg hsat hw
 by_cases h2 : f = 0
 . rw [if_pos h2]
   rw [decide_eq_true h2] at f1
   by_cases h3 : t &&& 10 = 0
   . rw [if_pos h3]
     simp only [decide_eq_true h3] at IP
     obtain ⟨l, hl⟩ := zn1 (secD X.b t va)
     simp only [<- hl] at WS |-
     clear h2 h3 hl m1
     obtain ⟨la, le, li, lff⟩ := l
     unfold lfV at WS |-
     dsimp only at WS |-
     go_enter func332, ntmps332
     go_wp2_with (first | (go_at_call 335; refine (PA _).out.mono ?_; rintro o w1 ⟨rfl, rfl⟩) | (go_at_call 375; refine (HTE.out _ hwa).mono ?_; rintro o w1 ⟨rfl, rfl⟩) | (go_at_call 376; refine (IP _).out.mono ?_; rintro o w1 ⟨rfl, rfl⟩) | (go_at_call 377; refine (WS.out _ hwa).mono ?_; rintro o w1 ⟨rfl, hk1⟩; obtain ⟨k1, f1⟩ := hk1.box w.heap.size zq492 (by simp)))
     exact bodyPost_ret (v := .tuple #[.agg #[.int .i64 la, .int .i64 le, .int .i64 li], .int .i64 lff]) (by simp [results, results332, go_sem, k1]) rfl ⟨rfl, zq500⟩
   . rw [if_neg h3]
     simp only [decide_eq_false h3] at IP
     by_cases h4 : pg % 4194304 = 0
     . rw [if_pos h4]
       rw [decide_eq_true h4] at m1
       unfold lfV
       clear h2 h3 h4
       go_enter func332, ntmps332
       go_wp2_with (first | (go_at_call 335; refine (PA _).out.mono ?_; rintro o w1 ⟨rfl, rfl⟩) | (go_at_call 375; refine (HTE.out _ hwa).mono ?_; rintro o w1 ⟨rfl, rfl⟩) | (go_at_call 376; refine (IP _).out.mono ?_; rintro o w1 ⟨rfl, rfl⟩) | (go_at_call 377; refine (WS.out _ hwa).mono ?_; rintro o w1 ⟨rfl, hk1⟩; obtain ⟨k1, f1⟩ := hk1.box w.heap.size zq492 (by simp)))
       exact bodyPost_ret (v := .tuple #[.agg #[.int .i64 a, .int .i64 t, .int .i64 4194303], .int .i64 0]) zq501 rfl ⟨rfl, zq494⟩
     . rw [if_neg h4]
       rw [decide_eq_false h4] at m1
       unfold lfV lf0
       clear h2 h3 h4
       go_enter func332, ntmps332
       go_wp2_with (first | (go_at_call 335; refine (PA _).out.mono ?_; rintro o w1 ⟨rfl, rfl⟩) | (go_at_call 375; refine (HTE.out _ hwa).mono ?_; rintro o w1 ⟨rfl, rfl⟩) | (go_at_call 376; refine (IP _).out.mono ?_; rintro o w1 ⟨rfl, rfl⟩) | (go_at_call 377; refine (WS.out _ hwa).mono ?_; rintro o w1 ⟨rfl, hk1⟩; obtain ⟨k1, f1⟩ := hk1.box w.heap.size zq492 (by simp)))
       exact bodyPost_ret (v := .tuple #[.agg #[.int .i64 0, .int .i64 0, .int .i64 0], .int .i64 1]) zq501 rfl ⟨rfl, zq494⟩
 . rw [if_neg h2]
   rw [decide_eq_false h2] at f1
   unfold lfV lf0
   clear h2
   go_enter func332, ntmps332
   go_wp2_with (first | (go_at_call 335; refine (PA _).out.mono ?_; rintro o w1 ⟨rfl, rfl⟩) | (go_at_call 375; refine (HTE.out _ hwa).mono ?_; rintro o w1 ⟨rfl, rfl⟩) | (go_at_call 376; refine (IP _).out.mono ?_; rintro o w1 ⟨rfl, rfl⟩) | (go_at_call 377; refine (WS.out _ hwa).mono ?_; rintro o w1 ⟨rfl, hk1⟩; obtain ⟨k1, f1⟩ := hk1.box w.heap.size zq492 (by simp)))
   exact bodyPost_ret (v := .tuple #[.agg #[.int .i64 0, .int .i64 0, .int .i64 0], .int .i64 f]) zq501 rfl ⟨rfl, zq494⟩
theorem p_and10 (e : Nat) : (e &&& 10 = 0) ↔ (bitN e 1 = false /\ bitN e 3 = false) := by
 have h := t_and10 e
 by_cases hz : e &&& 10 = 0
 . rw [decide_eq_true hz] at h; simp [hz]; cases h1 : bitN e 1 <;> cases h3 : bitN e 3 <;> simp [h1, h3] at h |-
 . rw [decide_eq_false hz] at h; simp [hz]; cases h1 : bitN e 1 <;> cases h3 : bitN e 3 <;> simp [h1, h3] at h |-
theorem p_and208 (e : Nat) : (e &&& 208 = 0) ↔ (bitN e 4 = false /\ bitN e 6 = false /\ bitN e 7 = false) := by
 have h := t_and208 e
 by_cases hz : e &&& 208 = 0
 . rw [decide_eq_true hz] at h; simp [hz]; cases h1 : bitN e 4 <;> cases h3 : bitN e 6 <;> cases h7 : bitN e 7 <;> simp [h1, h3, h7] at h |-
 . rw [decide_eq_false hz] at h; simp [hz]; cases h1 : bitN e 4 <;> cases h3 : bitN e 6 <;> cases h7 : bitN e 7 <;> simp [h1, h3, h7] at h |-
def trX (B : BusS) (C : CsrS) (l : Lf) (va k mode : Nat) : (Nat × Nat) × BusS :=
 if l.f = 0 then (if allD C l.e k mode = true then ((l.e / 1024 * 4096 + va % (l.ip + 1), 0), { B with ram := stN B.ram (l.a - 2147483648) 4 (mrkD l.e k) }) else ((0, 1), B)) else ((0, l.f), B)
theorem mark_same (B : BusS) (p e k : Nat) (h : p + 4 <= B.ram.length) (he : e = rdRam B p 4) : (if adB (bitN e 6) (bitN e 7) k = 0 then B else { B with ram := stN B.ram p 4 (e + adB (bitN e 6) (bitN e 7) k) }) = { B with ram := stN B.ram p 4 (mrkD e k) } := by
 rw [mrk_eq]
 split
 . rename_i h0
   rw [h0, Nat.add_zero]
   have := stN_same 4 B.ram p h
   rw [he]
   unfold rdRam
   rw [this]
 . rfl
theorem sp1 : 4194303 + 1 = spanN 1 := by unfold spanN; rw [if_pos rfl]
theorem sp0 : 4095 + 1 = spanN 0 := by unfold spanN; rw [if_neg (by simp)]
theorem trX_leaf (B : BusS) (C : CsrS) (a va k mode lvl ip : Nat) (hip : ip + 1 = spanN lvl) (h : a - 2147483648 + 4 <= B.ram.length) (hal : ¬ (lvl = 1 /\ ¬ entE B a / 1024 % 1024 = 0)) : leafD B C (entE B a) a lvl va k mode = trX B C ⟨a, entE B a, ip, 0⟩ va k mode := by
 have he : entE B a = rdRam B (a - 2147483648) 4 := rfl
 obtain ⟨e, hee⟩ := zn1 (entE B a)
 rw [<- hee] at he hal |-
 clear hee
 unfold leafD trX
 dsimp only
 generalize a - 2147483648 = p at *
 rw [if_pos (rfl : (0 : Nat) = 0), mark_same B p e k h he, hip]
 cases allD C e k mode
 . simp
 . rw [if_neg (by simp), if_neg hal]; simp
theorem tr_fault (B : BusS) (C : CsrS) (f va k mode : Nat) (h : f ≠ 0) : trX B C (lf0 f) va k mode = ((0, f), B) := by
 unfold trX lf0
 dsimp only
 rw [if_neg h]
theorem leaf_mis (B : BusS) (C : CsrS) (e a va k mode : Nat) (h : ¬ e / 1024 % 1024 = 0) : leafD B C e a 1 va k mode = trX B C (lf0 1) va k mode := by
 rw [tr_fault B C 1 va k mode (by decide)]
 unfold leafD
 generalize a - 2147483648 = p at *
 split
 . rfl
 . rw [if_pos ⟨rfl, h⟩]
theorem trX_eq (B : BusS) (C : CsrS) (satp va k mode : Nat) (hva : va < 4294967296) : walk1 B C (satp % 4194304 * 4096) va k mode = trX B C (wkD B satp va) va k mode := by
 unfold walk1 wkD
 have ea : entA (satp % 4194304 * 4096) va 1 = satp % 4194304 * 4096 + 4 * (va / 4194304) := by
  unfold entA spanN; rw [if_pos (rfl : (1 : Nat) = 1)]; omega
 rw [ea]
 obtain ⟨a, ha⟩ := zn1 (satp % 4194304 * 4096 + 4 * (va / 4194304))
 rw [<- ha]
 clear ha ea
 cases hh : holdsD (a : Nat) 4 B.ram.length with
 | false =>
  have ht : tabD B a = (0, 2) := by unfold tabD; rw [hh]; rfl
  rw [ht]; exact (tr_fault B C 2 va k mode (by decide)).symm
 | true =>
  rw [if_neg (by simp)]
  obtain ⟨hg1, hg2⟩ := holdsD_at hh
  by_cases hv : bitN (entE B a) 0 = false \/ (bitN (entE B a) 2 = true /\ bitN (entE B a) 1 = false)
  . have ht : tabD B a = (0, 1) := by unfold tabD; rw [hh, if_neg (by simp), if_pos hv]
    rw [ht, if_pos hv]; exact (tr_fault B C 1 va k mode (by decide)).symm
  . have ht : tabD B a = (entE B a, 0) := by unfold tabD; rw [hh, if_neg (by simp), if_neg hv]
    rw [ht, if_neg hv]
    dsimp only
    rw [if_pos (rfl : (0 : Nat) = 0)]
    by_cases hp : entE B a &&& 10 = 0
    . rw [if_pos hp, if_pos ((p_and10 _).1 hp)]
      obtain ⟨e, he⟩ := zn1 (entE B a)
      rw [<- he]
      clear he hv ht hh hg1 hg2
      unfold secD
      by_cases hq : e &&& 208 = 0
      . have hq' := (p_and208 e).1 hq
        rw [if_pos hq, if_neg (by rw [hq'.1, hq'.2.1, hq'.2.2]; simp)]
        unfold walk0
        have ea : entA (e / 1024 * 4096) va 0 = e / 1024 * 4096 + 4 * (va / 4096 % 1024) := by
         unfold entA spanN; rw [if_neg (by simp)]; omega
        rw [ea]
        obtain ⟨c, hc⟩ := zn1 (e / 1024 * 4096 + 4 * (va / 4096 % 1024))
        rw [<- hc]
        clear hc ea
        cases hh : holdsD (c : Nat) 4 B.ram.length with
        | false =>
         have ht : tabD B c = (0, 2) := by unfold tabD; rw [hh]; rfl
         rw [ht]; exact (tr_fault B C 2 va k mode (by decide)).symm
        | true =>
         rw [if_neg (by simp)]
         obtain ⟨hg1, hg2⟩ := holdsD_at hh
         by_cases hv : bitN (entE B c) 0 = false \/ (bitN (entE B c) 2 = true /\ bitN (entE B c) 1 = false)
         . have ht : tabD B c = (0, 1) := by unfold tabD; rw [hh, if_neg (by simp), if_pos hv]
           rw [ht, if_pos hv]; exact (tr_fault B C 1 va k mode (by decide)).symm
         . have ht : tabD B c = (entE B c, 0) := by unfold tabD; rw [hh, if_neg (by simp), if_neg hv]
           rw [ht, if_neg hv]
           dsimp only
           rw [if_pos (rfl : (0 : Nat) = 0)]
           by_cases hp : entE B c &&& 10 = 0
           . rw [if_pos hp, if_pos ((p_and10 _).1 hp)]; exact (tr_fault B C 1 va k mode (by decide)).symm
           . rw [if_neg hp, if_neg (fun h => hp ((p_and10 _).2 h))]
             exact trX_leaf B C c va k mode 0 4095 sp0 hg2 (by simp)
      . rw [if_neg hq, if_pos]
        . exact (tr_fault B C 1 va k mode (by decide)).symm
        . have := fun h => hq ((p_and208 e).2 h)
          cases h4 : bitN e 4 <;> cases h6 : bitN e 6 <;> cases h7 : bitN e 7 <;> simp [h4, h6, h7] at this |-
    . have hmA : entE B a / 1024 * 4096 % 4194304 = 0 ↔ entE B a / 1024 % 1024 = 0 := by omega
      have hn : ¬ (bitN (entE B a) 1 = false /\ bitN (entE B a) 3 = false) := fun h => hp ((p_and10 (entE B a)).2 h)
      simp only [if_neg hp, if_neg hn]
      by_cases hm : entE B a / 1024 % 1024 = 0
      . simp only [if_pos (hmA.2 hm)]
        exact trX_leaf B C a va k mode 1 4194303 sp1 hg2 (by intro h; exact h.2 hm)
      . simp only [if_neg (fun h => hm (hmA.1 h))]
        exact leaf_mis B C _ a va k mode hm
theorem wk_a (B : BusS) (satp va : Nat) (hva : va < 4294967296) (h : (wkD B satp va).f = 0) : 2147483648 <= (wkD B satp va).a /\ (wkD B satp va).a - 2147483648 + 4 <= B.ram.length /\ (wkD B satp va).a < 68719476736 /\ (wkD B satp va).e < 4294967296 /\ ((wkD B satp va).ip = 4095 \/ (wkD B satp va).ip = 4194303) := by
 have tb : ∀ c, (tabD B c).2 = 0 -> 2147483648 <= c /\ c - 2147483648 + 4 <= B.ram.length := by
  intro c hc
  unfold tabD at hc
  cases hh : holdsD (c : Nat) 4 B.ram.length with
  | false => rw [hh] at hc; simp at hc
  | true => exact holdsD_at hh
 revert h
 unfold wkD secD
 repeat' split
 all_goals (intro h; dsimp only [lf0] at h |-)
 all_goals first
  | omega
  | (rename_i h1 h2 h3 h4 h5
     have := tb _ h4
     have h6 := tab_lt B (satp % 4194304 * 4096 + 4 * (va / 4194304))
     have h7 := tab_lt B ((tabD B (satp % 4194304 * 4096 + 4 * (va / 4194304))).1 / 1024 * 4096 + 4 * (va / 4096 % 1024))
     exact ⟨this.1, this.2, by omega, h7, .inl rfl⟩)
  | (rename_i h1 h2 h3
     have := tb _ h1
     have h6 := tab_lt B (satp % 4194304 * 4096 + 4 * (va / 4194304))
     exact ⟨this.1, this.2, by omega, h6, .inr rfl⟩)
  | (exfalso; simp_all)
end Go.Proofs.YtmlgonbhoknoiabGreatDoor
