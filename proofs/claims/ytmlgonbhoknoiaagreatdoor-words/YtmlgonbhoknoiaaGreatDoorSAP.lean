import Derived.Test.YtmlgonbhoknoiaaGreatDoorSAO
set_option maxHeartbeats 8000000
set_option linter.all false
namespace Go.Proofs.YtmlgonbhoknoiaaGreatDoor
open Go.RowKit Go.Proofs.Tryz
theorem regR_mod (m : UInt8 -> Bool) (s : ByteArray) (W : Nat) (g : Int) : regR m s W g % 2 ^ Pic.cnt m (Pic.rv s.data.toList s.size) = (Pic.val m (Pic.rv s.data.toList s.size) W : Int) := by
 unfold regR
 simp only
 generalize Pic.rv s.data.toList s.size = q
 have hv := Pic.val_lt m q W
 by_cases c0 : Pic.cnt m q = 0
 . rw [if_pos c0, c0]
   rw [c0] at hv
   simp at hv
   rw [hv]; simp [Int.emod_one]
 . rw [if_neg c0]
   by_cases c3 : Pic.cnt m q = 3
   . rw [if_pos c3, c3]
     rw [c3] at hv
     have e8 : (2 : Int) ^ 3 = 8 := by decide
     have n8 : (2 : Nat) ^ 3 = 8 := by decide
     rw [e8]; omega
   . rw [if_neg c3]
     have e : ((2 : Int) ^ Pic.cnt m q) = ((2 ^ Pic.cnt m q : Nat) : Int) := by simp
     rw [e]
     exact Int.emod_eq_of_lt (by omega) (by omega)
def shortOk (n : Nat) : Bool :=
 decide (1 <= (Tab.shortRow n).1) && decide ((Tab.shortRow n).1 <= 70) && ((Tab.shortRow n).2.1.size == 16) && (shortQ n).all Pic.known && Pic.apart (shortQ n) && (match shortQ n with | x :: y :: _ => x == 48 || y == 48 | _ => false) &&
 (Pic.cnt (· == 83) (shortQ n) == 0 || Pic.cnt (· == 66) (shortQ n) == 0)
theorem shorts_ok : ((List.range 27).all fun n => n == 0 || shortOk n) = true := by decide +kernel
theorem short_facts (n : Nat) (h1 : 1 <= n) (h2 : n <= 26) : 1 <= (Tab.shortRow n).1 /\ (Tab.shortRow n).1 <= 70 /\ (Tab.shortRow n).2.1.size = 16 /\ (shortQ n).all Pic.known = true /\ Pic.apart (shortQ n) = true /\ (∃ x y q, shortQ n = x :: y :: q /\ (x = 48 \/ y = 48)) /\
 (Pic.cnt (· == 83) (shortQ n) = 0 \/ Pic.cnt (· == 66) (shortQ n) = 0) := by
 have h := List.all_eq_true.1 shorts_ok n (by simp; omega)
 rw [Bool.or_eq_true, beq_iff_eq] at h
 rcases h with h | h
 . omega
 . simp only [shortOk, Bool.and_eq_true, decide_eq_true_eq, beq_iff_eq, Bool.or_eq_true] at h
   obtain ⟨⟨⟨⟨⟨⟨a, b⟩, c⟩, d⟩, e⟩, f⟩, g⟩ := h
   refine ⟨a, b, c, d, e, ?_, g⟩
   revert f
   match shortQ n with
   | x :: y :: q => intro f; simp only [Bool.or_eq_true, beq_iff_eq] at f; exact ⟨x, y, q, rfl, f⟩
   | [x] => intro f; cases f
   | [] => intro f; cases f
theorem fits_not3 {x y : UInt8} {q : List UInt8} {W : Nat} (h : x = 48 \/ y = 48) (hf : Pic.fits (x :: y :: q) W = true) : ¬ W % 4 = 3 := by
 simp only [Pic.fits, Bool.and_eq_true] at hf
 rcases h with rfl | rfl
 . have a := hf.1; simp [Pic.okBit] at a; omega
 . have a := hf.2.1; simp [Pic.okBit] at a; omega
theorem short_chk (n : Nat) (h1 : 1 <= n) (h2 : n <= 26) : chk (Tab.shortRow n) (TabR.half n) 16 = true := by
 have h := List.all_eq_true.1 chkH n (by simp; omega)
 exact zq346
theorem short_draw (n v : Nat) (h1 : 1 <= n) (h2 : n <= 26) (hv : v < 65536) (hf : rowFits (Tab.shortRow n) v = true) : rowDraw (Tab.shortRow n) (rowIns (Tab.shortRow n) v) = v := by
 obtain ⟨_, _, f3, f4, f5, _, f7⟩ := short_facts n h1 h2
 have hfit := rowFits_fits hf
 have hc := short_chk n h1 h2
 have hrow := (row_eq hc v zq519).1
 simp only [chk, Bool.and_eq_true, beq_iff_eq, decide_eq_true_eq] at hc
 have e := hc.1.1.1.1.1.1.1.1.1.1.2
 have es : (TabR.half n).pic = (Tab.shortRow n).2.1 := by
  generalize (TabR.half n).pic = a at *
  generalize (Tab.shortRow n).2.1 = b at *
  obtain ⟨a⟩ := a
  obtain ⟨b⟩ := b
  simp only at e
  congr 1
  exact (Array.toList_inj.1 e).symm
 unfold rowDraw
 have hq : Pic.rv (Tab.shortRow n).2.1.data.toList (Tab.shortRow n).2.1.size = shortQ n := rfl
 rw [hq] at hfit |-
 have hlen : (shortQ n).length = 16 := by unfold shortQ; rw [Pic.rv_length _ _ (by simp), f3]
 refine Pic.draw_read (shortQ n) v _ _ _ _ f4 (by rw [hlen]; have : (2 : Nat) ^ 16 = 65536 := (by decide); omega) hfit ?_ ?_ ?_ ?_
 . rw [hrow]
   have := regR_mod (fun x => x == 68 || x == 66) (Tab.shortRow n).2.1 v (TabR.half n).rd
   rw [hq] at this
   unfold insRf
   simp only
   rw [es]
   exact this
 . rw [hrow]
   unfold insRf
   simp only
   rw [es]
   have h83 := regR_mod (fun x => x == 83 || x == 66) (Tab.shortRow n).2.1 v (TabR.half n).rs1
   rw [hq] at h83
   rcases f7 with f7 | f7
   . rw [f7, val_zero 83 _ _ f7]; simp [Int.emod_one]
   . obtain ⟨a, b⟩ := val_or 83 66 (shortQ n) v f7
     rw [a, b] at h83
     exact h83
 . rw [hrow]
   unfold insRf
   simp only
   rw [es]
   have := regR_mod (fun x => x == 84) (Tab.shortRow n).2.1 v 0
   rw [hq] at this
   exact this
 . intro k hk hl
   have := Pic.imm_bit (shortQ n) (hasB (Tab.shortRow n).2.2 1) v k hk f5 hl
   exact this
def fval (c : UInt8) : List UInt8 -> List UInt8 -> Option Nat
 | x :: p, y :: q => if y == c then (if x == 48 then (fval c p q).map (2 * ·) else if x == 49 then (fval c p q).map (2 * · + 1) else none) else fval c p q
 | _, [] => some 0
 | [], y :: q => if y == c then none else fval c [] q
theorem fval_val (c : UInt8) : ∀ (p q : List UInt8) (W k : Nat), fval c p q = some k -> Pic.fits p W = true -> Pic.val (· == c) q W = k
 | [], [], _, k, h, _ => by simp [fval] at h; simp [Pic.val, h]
 | _ :: _, [], _, k, h, _ => by simp [fval] at h; simp [Pic.val, h]
 | [], y :: q, W, k, h, hf => by
  simp only [fval] at h
  cases hy : (y == c)
  . rw [hy] at h
    simp only [Bool.false_eq_true, if_false] at h
    simp only [Pic.val, hy, cond_false]
    exact fval_val c [] q (W / 2) k h rfl
  . rw [hy] at h; simp at h
 | x :: p, y :: q, W, k, h, hf => by
  simp only [Pic.fits, Bool.and_eq_true] at hf
  simp only [fval] at h
  cases hy : (y == c)
  . rw [hy] at h
    simp only [Bool.false_eq_true, if_false] at h
    simp only [Pic.val, hy, cond_false]
    exact fval_val c p q (W / 2) k h hf.2
  . rw [hy] at h
    simp only [if_true] at h
    simp only [Pic.val, hy, cond_true]
    by_cases h0 : x = 48
    . subst h0
      simp only [beq_self_eq_true, if_true] at h
      cases hr : fval c p q with
      | none => rw [hr] at h; cases h
      | some j =>
       rw [hr] at h
       have := fval_val c p q (W / 2) j hr hf.2
       have a := hf.1
       simp [Pic.okBit] at a
       simp at h
       omega
    . rw [if_neg (by simpa using h0)] at h
      by_cases h9 : x = 49
      . subst h9
        simp only [beq_self_eq_true, if_true] at h
        cases hr : fval c p q with
        | none => rw [hr] at h; cases h
        | some j =>
         rw [hr] at h
         have := fval_val c p q (W / 2) j hr hf.2
         have a := hf.1
         simp [Pic.okBit] at a
         simp at h
         omega
      . rw [if_neg (by simpa using h9)] at h; cases h
def pairOk (n m : Nat) : Bool :=
 clash (shortQ n) (shortQ m) ||
 (hasB (Tab.shortRow m).2.2 128 && fval 84 (shortQ n) (shortQ m) == some 0 && Pic.cnt (· == 84) (shortQ m) != 3) ||
 (hasB (Tab.shortRow m).2.2 64 && fval 83 (shortQ n) (shortQ m) == some 0 && Pic.cnt (· == 83) (shortQ m) != 3 && Pic.cnt (· == 66) (shortQ m) == 0 && toldRs1 (Tab.shortRow m).2.2 == 0) ||
 (hasB (Tab.shortRow m).2.2 256 && fval 68 (shortQ n) (shortQ m) == some 2 && Pic.cnt (· == 68) (shortQ m) != 3 && Pic.cnt (· == 66) (shortQ m) == 0 && toldRd (Tab.shortRow m).2.2 == 0)
theorem short_pairs : ((List.range 27).all fun n => (List.range 27).all fun m => n == 0 || decide (m <= n) || pairOk n m) = true := by decide +kernel
theorem reg_val {s : ByteArray} {c : UInt8} {W k : Nat} (hv : Pic.val (· == c) (Pic.rv s.data.toList s.size) W = k) (h3 : Pic.cnt (· == c) (Pic.rv s.data.toList s.size) ≠ 3) : regOf s c W = k := by
 unfold regOf; simp only; rw [if_neg h3, hv]
theorem reg_none {s : ByteArray} {c : UInt8} {W : Nat} (h0 : Pic.cnt (· == c) (Pic.rv s.data.toList s.size) = 0) : regOf s c W = 0 := by
 unfold regOf; simp only; rw [if_neg (by omega), val_zero c _ _ h0]
theorem pair_no (n m v : Nat) (h : pairOk n m = true) (hn : rowFits (Tab.shortRow n) v = true) (hm : rowFits (Tab.shortRow m) v = true) : False := by
 have fn := rowFits_fits hn
 have fm := rowFits_fits hm
 unfold rowFits at hm
 simp only [Bool.and_eq_true, Bool.not_eq_true'] at hm
 have hr := hm.2
 unfold rulesOut at hr
 simp only [Bool.or_eq_false_iff] at hr
 obtain ⟨⟨⟨⟨r1, r2⟩, r3⟩, r4⟩, r5⟩ := hr
 simp only [pairOk, Bool.or_eq_true, Bool.and_eq_true, beq_iff_eq, bne_iff_ne, ne_eq] at h
 rcases h with ((h | h) | h) | h
 . exact clash_no _ _ v h fn fm
 . have e := reg_val (fval_val 84 _ _ v 0 h.1.2 fn) h.2
   rw [h.1.1, Bool.and_true, beq_eq_false_iff_ne] at r4
   apply r4
   show (regOf (Tab.shortRow m).2.1 84 v : Int) = 0
   rw [e]; rfl
 . have e := reg_val (fval_val 83 _ _ v 0 h.1.1.1.2 fn) h.1.1.2
   have e2 := reg_none (W := v) h.1.2
   rw [h.1.1.1.1, Bool.and_true, beq_eq_false_iff_ne] at r3
   apply r3
   show (regOf (Tab.shortRow m).2.1 83 v : Int) + regOf (Tab.shortRow m).2.1 66 v + toldRs1 (Tab.shortRow m).2.2 = 0
   rw [e, e2, h.2]; rfl
 . have e := reg_val (fval_val 68 _ _ v 2 h.1.1.1.2 fn) h.1.1.2
   have e2 := reg_none (W := v) h.1.2
   rw [h.1.1.1.1, Bool.and_true, beq_eq_false_iff_ne] at r5
   apply r5
   show (regOf (Tab.shortRow m).2.1 68 v : Int) + regOf (Tab.shortRow m).2.1 66 v + toldRd (Tab.shortRow m).2.2 = 2
   rw [e, e2, h.2]; rfl
theorem short_decode {n v : Nat} (h1 : 1 <= n) (h2 : n <= 26) (hv : v < 65536) (hf : rowFits (Tab.shortRow n) v = true) : ¬ v % 4 = 3 /\ (decodeR v).1 = rowIns (Tab.shortRow n) v := by
 obtain ⟨_, _, _, _, _, ⟨x, y, q, hq, hxy⟩, _⟩ := short_facts n h1 h2
 have hfit := rowFits_fits hf
 have h3 : ¬ v % 4 = 3 := fits_not3 (q := q) hxy (by rw [<- hq]; exact hfit)
 refine ⟨h3, ?_⟩
 rw [<- decode_eq]
 unfold decodeD
 have hsz : sizeOf (v : Int) = 2 := zq136
 rw [hsz, if_neg (by decide)]
 have hm : rowMeans 2 v n = some (rowIns (Tab.shortRow n) v) := by
  unfold rowMeans
  rw [show rowAt 2 n = Tab.shortRow n from rfl, if_pos hf]
 have hc : (rowCount 2).toNat = 26 := rfl
 rw [hc, Int.toNat_natCast, scan_at hm 26 1 h1 (by omega) ?_]
 intro k k1 k2
 unfold rowMeans
 rw [if_neg]
 intro hk
 have hcl := List.all_eq_true.1 (List.all_eq_true.1 short_pairs k (by simp; omega)) n (by simp; omega)
 simp only [Bool.or_eq_true, beq_iff_eq, decide_eq_true_eq] at hcl
 rcases hcl with (hcl | hcl) | hcl
 . omega
 . omega
 . exact pair_no k n v hcl hk hf
theorem short_found {v : Nat} {i : Ins} (hv : v < 65536) (h3 : ¬ v % 4 = 3) (h : (decodeR v).1 = i) (hop : 1 <= i.op) : ∃ n : Nat, 1 <= n /\ n <= 26 /\ rowFits (Tab.shortRow n) v = true /\ rowIns (Tab.shortRow n) v = i := by
 rw [<- decode_eq] at h
 unfold decodeD at h
 have hsz : sizeOf (v : Int) = 2 := zq136
 rw [hsz, if_neg (by decide), Int.toNat_natCast] at h
 cases hs : scan (rowMeans 2 v) 1 (rowCount 2).toNat with
 | none => rw [hs] at h; rw [<- h] at hop; simp at hop
 | some j =>
  rw [hs] at h
  simp only at h
  subst h
  obtain ⟨k, k1, k2, k3⟩ := scan_someE _ _ hs
  have hc : (rowCount 2).toNat = 26 := rfl
  rw [hc] at k2
  unfold rowMeans at k3
  split at k3
  . next hf => exact ⟨k, k1, by omega, hf, Option.some.inj k3⟩
  . cases k3
theorem rowWord_some {i : Ins} {k v : Nat} (hln : i.ln = 2) (h : rowWord i k = some v) : rowDraw (Tab.shortRow k) i = v /\ rowFits (Tab.shortRow k) v = true /\ rowIns (Tab.shortRow k) v = i := by
 unfold rowWord at h
 rw [show rowAt i.ln k = Tab.shortRow k by rw [hln]; rfl] at h
 split at h
 . next hc =>
   have e := Option.some.inj h
   rw [e] at hc
   exact ⟨e, hc.2.1, (same_iff _ _).1 hc.2.2⟩
 . cases h
theorem least_spec {i : Ins} : ∀ (m n : Nat) (st : Option Nat),
 (∀ b, least i st n m = some b -> (st = some b \/ ∃ k, n <= k /\ k < n + m /\ rowWord i k = some b) /\ (∀ a, st = some a -> b <= a) /\ ∀ k a, n <= k -> k < n + m -> rowWord i k = some a -> b <= a) /\
 (least i st n m = none -> st = none /\ ∀ k, n <= k -> k < n + m -> rowWord i k = none)
 | 0, n, st => by
  refine ⟨fun b h => ?_, fun h => ⟨h, fun k a b => by omega⟩⟩
  have h' : st = some b := h
  exact ⟨.inl h', fun a ha => (by rw [h'] at ha; cases ha; exact Nat.le_refl _), fun k a x y => by omega⟩
 | m + 1, n, st => by
  obtain ⟨ih1, ih2⟩ := least_spec (i := i) m (n + 1) (better st (rowWord i n))
  rw [least_step]
  constructor
  . intro b h
    obtain ⟨p1, p2, p3⟩ := ih1 b h
    cases hw : rowWord i n with
    | none =>
     rw [hw] at p1 p2
     simp only [better] at p1 p2
     refine ⟨?_, p2, ?_⟩
     . rcases p1 with p1 | ⟨k, a1, a2, a3⟩
       . exact .inl p1
       . exact .inr ⟨k, by omega, by omega, a3⟩
     . intro k a k1 k2 k3
       by_cases e : k = n
       . subst e; rw [hw] at k3; cases k3
       . exact p3 k a (by omega) (by omega) k3
    | some c =>
     rw [hw] at p1 p2
     cases st with
     | none =>
      simp only [better] at p1 p2
      have hbc := p2 c rfl
      refine ⟨?_, fun a ha => (by cases ha), ?_⟩
      . rcases p1 with p1 | ⟨k, a1, a2, a3⟩
        . exact .inr ⟨n, by omega, by omega, by rw [hw]; exact p1⟩
        . exact .inr ⟨k, by omega, by omega, a3⟩
      . intro k a k1 k2 k3
        by_cases e : k = n
        . subst e; rw [hw] at k3; cases k3; exact hbc
        . exact p3 k a (by omega) (by omega) k3
     | some d =>
      simp only [better] at p1 p2
      by_cases hcd : c < d
      . rw [if_pos hcd] at p1 p2
        have hbc := p2 c rfl
        refine ⟨?_, fun a ha => (by cases ha; omega), ?_⟩
        . rcases p1 with p1 | ⟨k, a1, a2, a3⟩
          . exact .inr ⟨n, by omega, by omega, by rw [hw]; exact p1⟩
          . exact .inr ⟨k, by omega, by omega, a3⟩
        . intro k a k1 k2 k3
          by_cases e : k = n
          . subst e; rw [hw] at k3; cases k3; exact hbc
          . exact p3 k a (by omega) (by omega) k3
      . rw [if_neg hcd] at p1 p2
        have hbd := p2 d rfl
        refine ⟨?_, fun a ha => (by cases ha; exact hbd), ?_⟩
        . rcases p1 with p1 | ⟨k, a1, a2, a3⟩
          . exact .inl p1
          . exact .inr ⟨k, by omega, by omega, a3⟩
        . intro k a k1 k2 k3
          by_cases e : k = n
          . subst e; rw [hw] at k3; cases k3; omega
          . exact p3 k a (by omega) (by omega) k3
  . intro h
    obtain ⟨q1, q2⟩ := ih2 h
    cases hw : rowWord i n with
    | none =>
     rw [hw] at q1
     refine ⟨q1, fun k k1 k2 => ?_⟩
     by_cases e : k = n
     . subst e; exact hw
     . exact q2 k (by omega) (by omega)
    | some c =>
     rw [hw] at q1
     cases st with
     | none => cases q1
     | some d => simp only [better] at q1; split at q1 <;> cases q1
theorem seek_spec {i : Ins} : ∀ (m v : Nat),
 (∀ x, seekR i v m = some x -> v <= x /\ x < v + m /\ (x % 4 ≠ 3 /\ sameB (decodeR x).1 i = true) /\ ∀ y, v <= y -> y < x -> ¬ (y % 4 ≠ 3 /\ sameB (decodeR y).1 i = true)) /\
 (seekR i v m = none -> ∀ y, v <= y -> y < v + m -> ¬ (y % 4 ≠ 3 /\ sameB (decodeR y).1 i = true))
 | 0, v => ⟨fun x h => (by cases h), fun _ y a b => by omega⟩
 | m + 1, v => by
  obtain ⟨ih1, ih2⟩ := seek_spec (i := i) m (v + 1)
  rw [seek_step]
  by_cases hc : v % 4 ≠ 3 /\ sameB (decodeR v).1 i = true
  . rw [if_pos hc]
    exact ⟨fun x h => (by cases h; exact ⟨by omega, by omega, hc, fun y a b => by omega⟩), fun h => (by cases h)⟩
  . rw [if_neg hc]
    refine ⟨fun x h => ?_, fun h y a b => ?_⟩
    . obtain ⟨p1, p2, p3, p4⟩ := ih1 x h
      refine ⟨by omega, by omega, p3, fun y a b => ?_⟩
      by_cases e : y = v
      . subst e; exact hc
      . exact p4 y (by omega) b
    . by_cases e : y = v
      . subst e; exact hc
      . exact ih2 h y (by omega) (by omega)
theorem wordsA {i : Ins} (hln : i.ln = 2) (k v : Nat) (k1 : 1 <= k) (k2 : k < 27) (hw : rowWord i k = some v) : v < 65536 /\ (v % 4 ≠ 3 /\ sameB (decodeR v).1 i = true) /\ 1 <= i.op /\ i.op <= 70 := by
 obtain ⟨e, hf, hi⟩ := rowWord_some hln hw
 obtain ⟨f1, f2, f3, _⟩ := short_facts k k1 (by omega)
 have hv : v < 65536 := by
  rw [<- e]
  have h := Pic.draw_lt (Pic.rv (Tab.shortRow k).2.1.data.toList (Tab.shortRow k).2.1.size) i.rd i.rs1 i.rs2 i.im
  rw [Pic.rv_length _ _ (by simp), show 2 ^ (Tab.shortRow k).2.1.size = 65536 by rw [f3]] at h
  exact h
 obtain ⟨g1, g2⟩ := short_decode k1 (by omega) hv hf
 have ho : (rowIns (Tab.shortRow k) v).op = (Tab.shortRow k).1 := rfl
 rw [hi] at ho
 exact ⟨hv, ⟨g1, (same_iff _ _).2 (g2.trans hi)⟩, by omega, by omega⟩
theorem wordsB {i : Ins} (hln : i.ln = 2) (v : Nat) (hv : v < 65536) (hp : v % 4 ≠ 3 /\ sameB (decodeR v).1 i = true) (hop : 1 <= i.op) : ∃ k, 1 <= k /\ k < 27 /\ rowWord i k = some v := by
 obtain ⟨k, k1, k2, hf, hi⟩ := short_found hv hp.1 ((same_iff _ _).1 hp.2) hop
 have hd := short_draw k v k1 k2 hv hf
 rw [hi] at hd
 refine ⟨k, k1, by omega, ?_⟩
 unfold rowWord
 have hr : rowAt i.ln k = Tab.shortRow k := by rw [hln]; rfl
 have ho : (Tab.shortRow k).1 = i.op := congrArg Ins.op hi
 rw [hr, hd, if_pos ⟨ho, hf, (same_iff _ _).2 hi⟩]
theorem least_seek {i : Ins} (hln : i.ln = 2) (hop : ¬ (i.op < 1 \/ 70 < i.op)) (M : Nat) (hM : Hid (M = 65536)) : least i none 1 26 = seekR i 0 M := by
 obtain ⟨l1, l2⟩ := least_spec (i := i) 26 1 none
 obtain ⟨s1, s2⟩ := seek_spec (i := i) M 0
 cases hL : least i none 1 26 with
 | none =>
  cases hS : seekR i 0 M with
  | none => rfl
  | some x =>
   exfalso
   obtain ⟨_, x2, x3, _⟩ := s1 x hS
   obtain ⟨k, k1, k2, k3⟩ := wordsB hln x (by have := hM.out; omega) x3 (by omega)
   rw [(l2 hL).2 k k1 (by omega)] at k3; cases k3
 | some b =>
  obtain ⟨p1, _, p3⟩ := l1 b hL
  have hb : b < 65536 /\ (b % 4 ≠ 3 /\ sameB (decodeR b).1 i = true) := by
   rcases p1 with h | ⟨k, k1, k2, k3⟩
   . cases h
   . have := wordsA hln k b k1 (by omega) k3; exact ⟨this.1, this.2.1⟩
  cases hS : seekR i 0 M with
  | none => exact absurd hb.2 (s2 hS b (by omega) (by have := hM.out; omega))
  | some x =>
   obtain ⟨_, x2, x3, x4⟩ := s1 x hS
   obtain ⟨k, k1, k2, k3⟩ := wordsB hln x (by have := hM.out; omega) x3 (by omega)
   have hle := p3 k x k1 (by omega) k3
   have hge : x <= b := by
    rcases Nat.lt_or_ge b x with h | h
    . exact absurd hb.2 (x4 b (by omega) h)
    . exact h
   have : b = x := by omega
   rw [this]
theorem encode_eq2 (i : Ins) (hln : i.ln = 2) : encodeD i = encodeR i := by
 unfold encodeD encodeR
 rw [hln, show (rowCount 2).toNat = 26 from rfl]
 by_cases hop : i.op < 1 \/ 70 < i.op
 . rw [if_pos hop]
   cases hL : least i none 1 26 with
   | none => rfl
   | some b =>
    exfalso
    rcases ((least_spec (i := i) 26 1 none).1 b hL).1 with h | ⟨k, k1, k2, k3⟩
    . cases h
    . have := (wordsA hln k b k1 (by omega) k3).2.2; omega
 . rw [if_neg hop, if_neg (by decide), if_pos rfl, least_seek hln hop 65536 rfl]
   generalize seekR i 0 65536 = st
   cases st <;> rfl
theorem encode_eq (i : Ins) : encodeD i = encodeR i := by
 by_cases h4 : i.ln = 4
 . exact encode_eq4 i h4
 . by_cases h2 : i.ln = 2
   . exact encode_eq2 i h2
   . unfold encodeD encodeR
     have hc : (rowCount i.ln).toNat = 0 := by
      unfold rowCount
      rw [beq_eq_false_iff_ne.2 h4, beq_eq_false_iff_ne.2 h2]; rfl
     rw [hc]
     show ((0 : Int), (3 : Int)) = _
     by_cases hop : i.op < 1 \/ 70 < i.op
     . rw [if_pos hop]
     . rw [if_neg hop, if_neg h4, if_neg h2]
structure Ln where
 nm : List UInt8
 i : Ins
 tg : List UInt8
def lnA (N : ByteArray) (i : Ins) (G : ByteArray) : Value := .agg #[.string N, .int .i64 i.op, .int .i64 i.rd, .int .i64 i.rs1, .int .i64 i.rs2, .int .i64 i.im, .int .i64 i.ln, .string G]
def lnV (l : Ln) : Value := lnA ⟨l.nm.toArray⟩ l.i ⟨l.tg.toArray⟩
def ln0 : Ln := ⟨[], ins0, []⟩
def insO (N G : ByteArray) : Option Ins -> Value
 | some i => .tuple #[lnA N i G, .bool true]
 | none => .tuple #[lnA ⟨#[]⟩ ins0 ⟨#[]⟩, .bool false]
namespace Byt
def opdR (i : Ins) (c : Nat) (t : List UInt8) : Option Ins :=
 match reg t with
 | none => none
 | some r => some (if c = 100 then { i with rd := r } else if c = 115 then { i with rs1 := r } else { i with rs2 := r })
def opdN (i : Ins) (c : Nat) (t : List UInt8) : Option Ins :=
 if (number t).2 = true then some (if c = 117 then { i with rs1 := (number t).1 } else { i with im := (number t).1 }) else none
def opdM (i : Ins) (t0 t1 t2 t3 : List UInt8) : Option Ins :=
 if t1 = [40] /\ t3 = [41] /\ (number t0).2 = true then
  match reg t2 with
  | none => none
  | some r => some { i with im := (number t0).1, rs1 := r }
 else none
end Byt
theorem a_readRegisterOperand (N G : ByteArray) (i : Ins) (c : Nat) (hc : c = 100 \/ c = 115 \/ c = 116) (s : ByteArray) (w : World) :
 CB 373 #[lnA N i G, .int .u8 c, .string s] (insO N G (Byt.opdR i c s.data.toList)) w := by
 unfold Byt.opdR
 obtain ⟨T, hT⟩ := zn1 (Byt.reg s.data.toList)
 rw [<- hT]
 have HT := hide1 hT
 clear hT
 unfold lnA
 cases T with
 | none =>
  go_enter func373, ntmps373
  go_wp2_with fail
  refine (a_readRegister s _).mono ?_
  rintro e w' ⟨rfl, rfl⟩
  rw [<- HT.out]
  go_wp2
  refine bodyPost_ret (v := insO N G none) zq527 rfl ⟨rfl, ?_⟩
  repeat (first | exact Below.refl _ _ | (with_reducible refine Below.setCell ?_ (by simp) _) | (with_reducible refine Below.alloc ?_ (by simp) _))
 | some r =>
  rcases hc with rfl | rfl | rfl
  . go_enter func373, ntmps373
    go_wp2_with fail
    refine (a_readRegister s _).mono ?_
    rintro e w' ⟨rfl, rfl⟩
    rw [<- HT.out]
    go_wp2
    refine bodyPost_ret (v := insO N G (some { i with rd := r })) zq527 rfl ⟨rfl, ?_⟩
    exact zq347
  . go_enter func373, ntmps373
    go_wp2_with fail
    refine (a_readRegister s _).mono ?_
    rintro e w' ⟨rfl, rfl⟩
    rw [<- HT.out]
    go_wp2
    refine bodyPost_ret (v := insO N G (some { i with rs1 := r })) zq527 rfl ⟨rfl, ?_⟩
    exact zq347
  . go_enter func373, ntmps373
    go_wp2_with fail
    refine (a_readRegister s _).mono ?_
    rintro e w' ⟨rfl, rfl⟩
    rw [<- HT.out]
    go_wp2
    refine bodyPost_ret (v := insO N G (some { i with rs2 := r })) zq527 rfl ⟨rfl, ?_⟩
    exact zq347
theorem eq_lit (s : ByteArray) (l : List UInt8) : (s.toList == l) = decide (s.data.toList = l) := by
 rw [Lib.toList_data, Bool.eq_iff_iff]; simp
theorem StrsAt.more {w w' : World} {b o : Nat} {L : List (List UInt8)} (h : Hid (StrsAt w b o L)) (hn : b < w.heap.size) (hb : Below w.heap.size w w') : Hid (StrsAt w' b o L) := h.out.below hb hn
def Short (L : List (List UInt8)) : Prop := ∀ t ∈ L, t.length <= 5000
theorem Short.get {L : List (List UInt8)} (h : Hid (Short L)) (a : Nat) : (L[a]?.getD []).length <= 5000 := by
 cases e : L[a]? with
 | none => simp
 | some t => exact h.out t (List.mem_of_getElem? e)
theorem a_readPlaceOperand (N G : ByteArray) (i : Ins) (b o cap : Nat) (L : List (List UInt8)) (hL : L.length <= 5000) (a : Nat) (ha : a <= 9000) (w : World) (hw : Hid (StrsAt w b o L)) (hb : b < w.heap.size) (hs : Hid (Short L)) :
 CB 374 #[lnA N i G, .slice (some ⟨b, o, none⟩) L.length cap, .int .i64 a] (insO N G (Byt.opdM i (L[a]?.getD []) (L[a + 1]?.getD []) (L[a + 2]?.getD []) (L[a + 3]?.getD []))) w := by
 unfold lnA
 have c0 := fun w hw => a_tokenAt b o cap L hL a (by omega) w hw
 have c1 := fun w hw => a_tokenAt b o cap L hL (a + 1) (by omega) w hw
 have c2 := fun w hw => a_tokenAt b o cap L hL (a + 2) (by omega) w hw
 have c3 := fun w hw => a_tokenAt b o cap L hL (a + 3) (by omega) w hw
 have s0 := Short.get hs a
 obtain ⟨t0, h0⟩ := zn1 (L[a]?.getD [])
 obtain ⟨t1, h1⟩ := zn1 (L[a + 1]?.getD [])
 obtain ⟨t2, h2⟩ := zn1 (L[a + 2]?.getD [])
 obtain ⟨t3, h3⟩ := zn1 (L[a + 3]?.getD [])
 rw [<- h0, <- h1, <- h2, <- h3]
 rw [<- h0] at c0 s0
 rw [<- h1] at c1
 rw [<- h2] at c2
 rw [<- h3] at c3
 clear h0 h1 h2 h3
 obtain ⟨X0, e0⟩ := zn1 (⟨t0.toArray⟩ : ByteArray)
 obtain ⟨X1, e1⟩ := zn1 (⟨t1.toArray⟩ : ByteArray)
 obtain ⟨X2, e2⟩ := zn1 (⟨t2.toArray⟩ : ByteArray)
 obtain ⟨X3, e3⟩ := zn1 (⟨t3.toArray⟩ : ByteArray)
 rw [show Byt.strV t0 = .string X0 by rw [e0]; rfl] at c0
 rw [show Byt.strV t1 = .string X1 by rw [e1]; rfl] at c1
 rw [show Byt.strV t2 = .string X2 by rw [e2]; rfl] at c2
 rw [show Byt.strV t3 = .string X3 by rw [e3]; rfl] at c3
 have f0 : X0.data.toList = t0 := by rw [e0]
 have f1 : X1.data.toList = t1 := by rw [e1]
 have f2 : X2.data.toList = t2 := by rw [e2]
 have f3 : X3.data.toList = t3 := by rw [e3]
 have s0' : X0.size <= 5000 := by rw [e0]; simpa [ByteArray.size] using s0
 clear e0 e1 e2 e3 s0
 subst f0 f1 f2 f3
 have C0 := hide1 c0
 have C1 := hide1 c1
 have C2 := hide1 c2
 have C3 := hide1 c3
 clear c0 c1 c2 c3
 have B2 : Below w.heap.size w ((w.alloc (.cells #[Value.string N, .int .i64 i.op, .int .i64 i.rd, .int .i64 i.rs1, .int .i64 i.rs2, .int .i64 i.im, .int .i64 i.ln, .string G] 185)).alloc (.cells #[Value.string ⟨#[]⟩, .int .i64 0, .int .i64 0, .int .i64 0, .int .i64 0, .int .i64 0, .int .i64 0, .string ⟨#[]⟩] 185)) := zq137
 have hw2 := StrsAt.more hw hb B2
 have HB := hide1 B2
 clear B2
 have q1 : (X1.toList == [40]) = decide (X1.data.toList = [40]) := eq_lit X1 [40]
 have q3 : (X3.toList == [41]) = decide (X3.data.toList = [41]) := eq_lit X3 [41]
 unfold Byt.opdM
 by_cases k1 : X1.data.toList = [40]
 . rw [decide_eq_true k1] at q1
   by_cases k3 : X3.data.toList = [41]
   . rw [decide_eq_true k3] at q3
     obtain ⟨V, hV⟩ := zn1 (Byt.number X0.data.toList)
     rw [<- hV]
     have HV := hide1 hV
     clear hV
     obtain ⟨v, vb⟩ := V
     cases vb with
     | false =>
      rw [if_neg (fun h => by simp at h)]
      clear k1 k3
      go_enter func374, ntmps374
      go_wp2_with fail
      rw [show (a : Int) + 1 = ((a + 1 : Nat) : Int) by omega]
      refine (C1.out _ hw2).mono ?_
      rintro e w1 ⟨rfl, rfl⟩
      go_wp2_with fail
      rw [show (a : Int) + 3 = ((a + 3 : Nat) : Int) by omega]
      refine (C3.out _ hw2).mono ?_
      rintro e w1 ⟨rfl, rfl⟩
      go_wp2_with fail
      refine (C0.out _ hw2).mono ?_
      rintro e w1 ⟨rfl, rfl⟩
      go_wp2_with fail
      refine (a_readNumber X0 s0' _).mono ?_
      rintro e w1 ⟨rfl, rfl⟩
      rw [<- HV.out]
      go_wp2
      refine bodyPost_ret (v := insO N G none) zq528 rfl ⟨rfl, ?_⟩
      repeat (first | exact Below.refl _ _ | (with_reducible refine Below.setCell ?_ (by simp) _) | (with_reducible refine Below.alloc ?_ (by simp) _))
     | true =>
      rw [if_pos ⟨k1, k3, rfl⟩]
      clear k1 k3
      obtain ⟨R, hR⟩ := zn1 (Byt.reg X2.data.toList)
      rw [<- hR]
      have HR := hide1 hR
      clear hR
      cases R with
      | none =>
       go_enter func374, ntmps374
       go_wp2_with fail
       rw [show (a : Int) + 1 = ((a + 1 : Nat) : Int) by omega]
       refine (C1.out _ hw2).mono ?_
       rintro e w1 ⟨rfl, rfl⟩
       go_wp2_with fail
       rw [show (a : Int) + 3 = ((a + 3 : Nat) : Int) by omega]
       refine (C3.out _ hw2).mono ?_
       rintro e w1 ⟨rfl, rfl⟩
       go_wp2_with fail
       refine (C0.out _ hw2).mono ?_
       rintro e w1 ⟨rfl, rfl⟩
       go_wp2_with fail
       refine (a_readNumber X0 s0' _).mono ?_
       rintro e w1 ⟨rfl, rfl⟩
       rw [<- HV.out]
       go_wp2_with fail
       rw [show (a : Int) + 2 = ((a + 2 : Nat) : Int) by omega]
       refine (C2.out _ hw2).mono ?_
       rintro e w1 ⟨rfl, rfl⟩
       go_wp2_with fail
       refine (a_readRegister X2 _).mono ?_
       rintro e w1 ⟨rfl, rfl⟩
       rw [<- HR.out]
       go_wp2
       refine bodyPost_ret (v := insO N G none) zq528 rfl ⟨rfl, ?_⟩
       repeat (first | exact Below.refl _ _ | (with_reducible refine Below.setCell ?_ (by simp) _) | (with_reducible refine Below.alloc ?_ (by simp) _))
      | some r =>
       go_enter func374, ntmps374
       go_wp2_with fail
       rw [show (a : Int) + 1 = ((a + 1 : Nat) : Int) by omega]
       refine (C1.out _ hw2).mono ?_
       rintro e w1 ⟨rfl, rfl⟩
       go_wp2_with fail
       rw [show (a : Int) + 3 = ((a + 3 : Nat) : Int) by omega]
       refine (C3.out _ hw2).mono ?_
       rintro e w1 ⟨rfl, rfl⟩
       go_wp2_with fail
       refine (C0.out _ hw2).mono ?_
       rintro e w1 ⟨rfl, rfl⟩
       go_wp2_with fail
       refine (a_readNumber X0 s0' _).mono ?_
       rintro e w1 ⟨rfl, rfl⟩
       rw [<- HV.out]
       go_wp2_with fail
       rw [show (a : Int) + 2 = ((a + 2 : Nat) : Int) by omega]
       refine (C2.out _ hw2).mono ?_
       rintro e w1 ⟨rfl, rfl⟩
       go_wp2_with fail
       refine (a_readRegister X2 _).mono ?_
       rintro e w1 ⟨rfl, rfl⟩
       rw [<- HR.out]
       go_wp2
       refine bodyPost_ret (v := insO N G (some { i with im := v, rs1 := r })) zq528 rfl ⟨rfl, ?_⟩
       repeat (first | exact Below.refl _ _ | (with_reducible refine Below.setCell ?_ (by simp) _) | (with_reducible refine Below.alloc ?_ (by simp) _))
   . rw [decide_eq_false k3] at q3
     rw [if_neg (fun h => k3 h.2.1)]
     clear k1 k3
     go_enter func374, ntmps374
     go_wp2_with fail
     rw [show (a : Int) + 1 = ((a + 1 : Nat) : Int) by omega]
     refine (C1.out _ hw2).mono ?_
     rintro e w1 ⟨rfl, rfl⟩
     go_wp2_with fail
     rw [show (a : Int) + 3 = ((a + 3 : Nat) : Int) by omega]
     refine (C3.out _ hw2).mono ?_
     exact zq348
 . rw [decide_eq_false k1] at q1
   rw [if_neg (fun h => k1 h.1)]
   clear k1 q3
   go_enter func374, ntmps374
   go_wp2_with fail
   rw [show (a : Int) + 1 = ((a + 1 : Nat) : Int) by omega]
   refine (C1.out _ hw2).mono ?_
   exact zq348
namespace Byt
def opdP (i : Ins) (g : List UInt8) (c : Nat) (T : List (List UInt8)) : Option (Ins × List UInt8) :=
 if c = 100 \/ c = 115 \/ c = 116 then (opdR i c (T[0]?.getD [])).map fun j => (j, g)
 else if c = 109 then (opdM i (T[0]?.getD []) (T[1]?.getD []) (T[2]?.getD []) (T[3]?.getD [])).map fun j => (j, g)
 else if c = 106 /\ isName (T[0]?.getD []) = true then some (i, T[0]?.getD [])
 else (opdN i c (T[0]?.getD [])).map fun j => (j, g)
end Byt
def lnO (N : ByteArray) : Option (Ins × List UInt8) -> Value
 | some (i, g) => .tuple #[lnA N i ⟨g.toArray⟩, .bool true]
 | none => .tuple #[lnA ⟨#[]⟩ ins0 ⟨#[]⟩, .bool false]
theorem lnO_map (N : ByteArray) (g : List UInt8) (o : Option Ins) : lnO N (o.map fun j => (j, g)) = insO N ⟨g.toArray⟩ o := by cases o <;> rfl
theorem a_operandTokens (c : Nat) (w : World) :
 CS 330 #[.int .u8 c] (.int .i64 (if c = 109 then 4 else 1 : Nat)) w := by
 by_cases h : c = 109
 . subst h
   exact zq349
 . rw [if_neg h]
   have h' : ((c : Int) == 109) = false := by simp; omega
   exact zq349
structure Bx (w : World) (b : Nat) (N : ByteArray) (i : Ins) (G : ByteArray) : Prop where
 c0 : w.cell? ⟨b, 0, none⟩ = some (.string N)
 c1 : w.cell? ⟨b, 1, none⟩ = some (.int .i64 i.op)
 c2 : w.cell? ⟨b, 2, none⟩ = some (.int .i64 i.rd)
 c3 : w.cell? ⟨b, 3, none⟩ = some (.int .i64 i.rs1)
 c4 : w.cell? ⟨b, 4, none⟩ = some (.int .i64 i.rs2)
 c5 : w.cell? ⟨b, 5, none⟩ = some (.int .i64 i.im)
 c6 : w.cell? ⟨b, 6, none⟩ = some (.int .i64 i.ln)
 c7 : w.cell? ⟨b, 7, none⟩ = some (.string G)
 fro : ∀ o, w.frozen? ⟨b, o, none⟩ = false
 lt : b < w.heap.size
theorem Bx.more {w w' : World} {b n : Nat} {N G : ByteArray} {i : Ins} (h : Bx w b N i G) (hb : Below n w w') (hn : b < n) : Bx w' b N i G :=
 ⟨(hb.cell (p := ⟨b, 0, none⟩) hn).trans h.c0, (hb.cell (p := ⟨b, 1, none⟩) hn).trans h.c1, (hb.cell (p := ⟨b, 2, none⟩) hn).trans h.c2, (hb.cell (p := ⟨b, 3, none⟩) hn).trans h.c3, (hb.cell (p := ⟨b, 4, none⟩) hn).trans h.c4, (hb.cell (p := ⟨b, 5, none⟩) hn).trans h.c5, (hb.cell (p := ⟨b, 6, none⟩) hn).trans h.c6, (hb.cell (p := ⟨b, 7, none⟩) hn).trans h.c7, fun o => (hb.frozen (p := ⟨b, o, none⟩) hn).trans (h.fro o), by have := hb.size; have := h.lt; omega⟩
def lnC (N : ByteArray) (i : Ins) (G : ByteArray) : Obj := .cells #[.string N, .int .i64 i.op, .int .i64 i.rd, .int .i64 i.rs1, .int .i64 i.rs2, .int .i64 i.im, .int .i64 i.ln, .string G] 185
theorem Bx.new (w : World) (N : ByteArray) (i : Ins) (G : ByteArray) : Bx (w.alloc (lnC N i G)) w.heap.size N i G := by
 unfold lnC
 refine ⟨?_, ?_, ?_, ?_, ?_, ?_, ?_, ?_, ?_, ?_⟩ <;> simp
theorem Bx.alloc {w : World} {b : Nat} {N G : ByteArray} {i : Ins} (h : Bx w b N i G) (o : Obj) : Bx (w.alloc o) b N i G := h.more ((Below.refl w.heap.size w).alloc (Nat.le_refl _) o) h.lt
theorem drop_get (L : List (List UInt8)) (a k : Nat) : (L.drop a)[k]? = L[a + k]? := List.getElem?_drop
theorem a_readOperand (N : ByteArray) (g : List UInt8) (i : Ins) (c : Nat) (hc : c = 100 \/ c = 115 \/ c = 116 \/ c = 109 \/ c = 106 \/ c = 117 \/ c = 105) (b o cap : Nat) (L : List (List UInt8)) (hL : L.length <= 5000) (a : Nat) (ha : a <= 9000) (w : World) (hw : Hid (StrsAt w b o L)) (hb : b < w.heap.size) (hs : Hid (Short L)) :
 CB 329 #[lnA N i ⟨g.toArray⟩, .int .u8 c, .slice (some ⟨b, o, none⟩) L.length cap, .int .i64 a] (lnO N (Byt.opdP i g c (L.drop a))) w := by
 have c0 := fun w hw => a_tokenAt b o cap L hL a (by omega) w hw
 have s0 := Short.get hs a
 have cm := fun (w : World) (hw : Hid (StrsAt w b o L)) (hb : b < w.heap.size) => a_readPlaceOperand N ⟨g.toArray⟩ i b o cap L hL a ha w hw hb hs
 unfold Byt.opdP
 rw [drop_get, drop_get, drop_get, drop_get, Nat.add_zero]
 obtain ⟨t0, h0⟩ := zn1 (L[a]?.getD [])
 rw [<- h0]
 rw [<- h0] at c0 s0 cm
 clear h0
 obtain ⟨X0, e0⟩ := zn1 (⟨t0.toArray⟩ : ByteArray)
 rw [show Byt.strV t0 = .string X0 by rw [e0]; rfl] at c0
 have f0 : X0.data.toList = t0 := by rw [e0]
 have s0' : X0.size <= 5000 := by rw [e0]; simpa [ByteArray.size] using s0
 clear e0 s0
 subst f0
 have C0 := hide1 c0
 have CM := hide1 cm
 clear c0 cm
 obtain ⟨G, hG⟩ := zn1 (⟨g.toArray⟩ : ByteArray)
 have B2 : Below w.heap.size w ((w.alloc (lnC N i G)).alloc (lnC ⟨#[]⟩ ins0 ⟨#[]⟩)) := zq137
 have hw2 := StrsAt.more hw hb B2
 have hb2 : b < ((w.alloc (lnC N i G)).alloc (lnC ⟨#[]⟩ ins0 ⟨#[]⟩)).heap.size := Nat.lt_of_lt_of_le hb B2.size
 have hX : Bx ((w.alloc (lnC N i G)).alloc (lnC ⟨#[]⟩ ins0 ⟨#[]⟩)) (w.heap.size + 1) ⟨#[]⟩ ins0 ⟨#[]⟩ := by
  have h := Bx.new (w.alloc (lnC N i G)) ⟨#[]⟩ ins0 ⟨#[]⟩
  simpa using h
 have HB := hide1 B2
 have HB2 := hide1 hb2
 have HX := hide1 hX
 unfold lnC ins0 at hw2 HB HB2 HX
 clear B2 hb2 hX
 rcases hc with rfl | rfl | rfl | rfl | rfl | rfl | rfl
 . rw [if_pos (by decide), lnO_map, <- hG]
   clear hG
   obtain ⟨O, hO⟩ := zn1 (Byt.opdR i 100 X0.data.toList)
   rw [<- hO]
   have HO := hide1 hO
   clear hO
   unfold lnA
   go_enter func329, ntmps329
   go_wp2_with fail
   refine (C0.out _ hw2).mono ?_
   rintro e w1 ⟨rfl, rfl⟩
   go_wp2_with fail
   refine (a_readRegisterOperand N G i 100 (by decide) X0 _).mono ?_
   exact zq350
 . rw [if_pos (by decide), lnO_map, <- hG]
   clear hG
   obtain ⟨O, hO⟩ := zn1 (Byt.opdR i 115 X0.data.toList)
   rw [<- hO]
   have HO := hide1 hO
   clear hO
   unfold lnA
   go_enter func329, ntmps329
   go_wp2_with fail
   refine (C0.out _ hw2).mono ?_
   rintro e w1 ⟨rfl, rfl⟩
   go_wp2_with fail
   refine (a_readRegisterOperand N G i 115 (by decide) X0 _).mono ?_
   exact zq350
 . rw [if_pos (by decide), lnO_map, <- hG]
   clear hG
   obtain ⟨O, hO⟩ := zn1 (Byt.opdR i 116 X0.data.toList)
   rw [<- hO]
   have HO := hide1 hO
   clear hO
   unfold lnA
   go_enter func329, ntmps329
   go_wp2_with fail
   refine (C0.out _ hw2).mono ?_
   rintro e w1 ⟨rfl, rfl⟩
   go_wp2_with fail
   refine (a_readRegisterOperand N G i 116 (by decide) X0 _).mono ?_
   exact zq350
 . rw [if_neg (by decide), if_pos rfl, lnO_map, <- hG]
   rw [<- hG] at CM
   clear hG
   obtain ⟨O, hO⟩ := zn1 (Byt.opdM i X0.data.toList (L[a + 1]?.getD []) (L[a + 2]?.getD []) (L[a + 3]?.getD []))
   rw [<- hO]
   have HO := hide1 hO
   clear hO
   unfold lnA
   go_enter func329, ntmps329
   go_wp2_with fail
   refine (C0.out _ hw2).mono ?_
   rintro e w1 ⟨rfl, rfl⟩
   go_wp2_with fail
   refine (CM.out _ hw2 HB2.out).mono ?_
   exact zq350
 . rw [if_neg (by decide), if_neg (by decide)]
   cases hn : Byt.isName X0.data.toList
   . rw [if_neg (by simp), lnO_map, <- hG]
     clear hG
     obtain ⟨V, hV⟩ := zn1 (Byt.number X0.data.toList)
     have HV := hide1 hV
     unfold Byt.opdN
     rw [<- hV]
     clear hV
     obtain ⟨v, vb⟩ := V
     cases vb with
     | false =>
      rw [if_neg (by simp)]
      unfold lnA
      go_enter func329, ntmps329
      go_wp2_with fail
      refine (C0.out _ hw2).mono ?_
      rintro e w1 ⟨rfl, rfl⟩
      go_wp2_with fail
      refine (a_isName X0 s0' _).mono ?_
      rintro e w1 ⟨rfl, rfl⟩
      rw [hn]
      go_wp2_with fail
      refine (a_readNumber X0 s0' _).mono ?_
      rintro e w1 ⟨rfl, rfl⟩
      rw [<- HV.out]
      go_wp2
      refine bodyPost_ret (v := insO N G none) zq529 rfl ⟨by first | rfl | simp [lnO, lnA], ?_⟩
      repeat (first | with_reducible exact Below.refl _ _ | with_reducible exact hB.out | (with_reducible refine Below.setCell ?_ (by simp) _) | (with_reducible refine Below.alloc ?_ (by simp) _))
     | true =>
      rw [if_pos rfl]
      unfold lnA
      go_enter func329, ntmps329
      go_wp2_with fail
      refine (C0.out _ hw2).mono ?_
      rintro e w1 ⟨rfl, rfl⟩
      go_wp2_with fail
      refine (a_isName X0 s0' _).mono ?_
      rintro e w1 ⟨rfl, rfl⟩
      rw [hn]
      go_wp2_with fail
      refine (a_readNumber X0 s0' _).mono ?_
      rintro e w1 ⟨rfl, rfl⟩
      rw [<- HV.out]
      go_wp2
      refine bodyPost_ret (v := insO N G (some { i with im := v })) zq529 rfl ⟨by first | rfl | simp [lnO, lnA], ?_⟩
      repeat (first | with_reducible exact Below.refl _ _ | with_reducible exact hB.out | (with_reducible refine Below.setCell ?_ (by simp) _) | (with_reducible refine Below.alloc ?_ (by simp) _))
   . rw [if_pos (by simp)]
     rw [<- hG]
     clear hG
     unfold lnA
     go_enter func329, ntmps329
     go_wp2_with fail
     refine (C0.out _ hw2).mono ?_
     rintro e w1 ⟨rfl, rfl⟩
     go_wp2_with fail
     refine (a_isName X0 s0' _).mono ?_
     rintro e w1 ⟨rfl, rfl⟩
     rw [hn]
     go_wp2
     refine bodyPost_ret (v := .tuple #[lnA N i X0, .bool true]) zq529 rfl ⟨by first | rfl | simp [lnO, lnA], ?_⟩
     repeat (first | with_reducible exact Below.refl _ _ | with_reducible exact hB.out | (with_reducible refine Below.setCell ?_ (by simp) _) | (with_reducible refine Below.alloc ?_ (by simp) _))
 . rw [if_neg (by decide), if_neg (by decide), if_neg (by simp), lnO_map, <- hG]
   clear hG
   obtain ⟨V, hV⟩ := zn1 (Byt.number X0.data.toList)
   have HV := hide1 hV
   unfold Byt.opdN
   rw [<- hV]
   clear hV
   obtain ⟨v, vb⟩ := V
   cases vb with
   | false =>
    rw [if_neg (by simp)]
    unfold lnA
    go_enter func329, ntmps329
    go_wp2_with fail
    refine (C0.out _ hw2).mono ?_
    rintro e w1 ⟨rfl, rfl⟩
    go_wp2_with fail
    refine (a_readNumber X0 s0' _).mono ?_
    rintro e w1 ⟨rfl, rfl⟩
    rw [<- HV.out]
    go_wp2
    refine bodyPost_ret (v := insO N G none) zq529 rfl ⟨by first | rfl | simp [lnO, lnA], ?_⟩
    repeat (first | with_reducible exact Below.refl _ _ | with_reducible exact hB.out | (with_reducible refine Below.setCell ?_ (by simp) _) | (with_reducible refine Below.alloc ?_ (by simp) _))
   | true =>
    rw [if_pos rfl]
    unfold lnA
    go_enter func329, ntmps329
    go_wp2_with fail
    refine (C0.out _ hw2).mono ?_
    rintro e w1 ⟨rfl, rfl⟩
    go_wp2_with fail
    refine (a_readNumber X0 s0' _).mono ?_
    rintro e w1 ⟨rfl, rfl⟩
    rw [<- HV.out]
    go_wp2
    refine bodyPost_ret (v := insO N G (some { i with rs1 := v })) zq529 rfl ⟨by first | rfl | simp [lnO, lnA], ?_⟩
    repeat (first | with_reducible exact Below.refl _ _ | with_reducible exact hB.out | (with_reducible refine Below.setCell ?_ (by simp) _) | (with_reducible refine Below.alloc ?_ (by simp) _))
 . rw [if_neg (by decide), if_neg (by decide), if_neg (by simp), lnO_map, <- hG]
   clear hG
   obtain ⟨V, hV⟩ := zn1 (Byt.number X0.data.toList)
   have HV := hide1 hV
   unfold Byt.opdN
   rw [<- hV]
   clear hV
   obtain ⟨v, vb⟩ := V
   cases vb with
   | false =>
    rw [if_neg (by simp)]
    unfold lnA
    go_enter func329, ntmps329
    go_wp2_with fail
    refine (C0.out _ hw2).mono ?_
    rintro e w1 ⟨rfl, rfl⟩
    go_wp2_with fail
    refine (a_readNumber X0 s0' _).mono ?_
    rintro e w1 ⟨rfl, rfl⟩
    rw [<- HV.out]
    go_wp2
    refine bodyPost_ret (v := insO N G none) zq529 rfl ⟨by first | rfl | simp [lnO, lnA], ?_⟩
    repeat (first | with_reducible exact Below.refl _ _ | with_reducible exact hB.out | (with_reducible refine Below.setCell ?_ (by simp) _) | (with_reducible refine Below.alloc ?_ (by simp) _))
   | true =>
    rw [if_pos rfl]
    unfold lnA
    go_enter func329, ntmps329
    go_wp2_with fail
    refine (C0.out _ hw2).mono ?_
    rintro e w1 ⟨rfl, rfl⟩
    go_wp2_with fail
    refine (a_readNumber X0 s0' _).mono ?_
    rintro e w1 ⟨rfl, rfl⟩
    rw [<- HV.out]
    go_wp2
    refine bodyPost_ret (v := insO N G (some { i with im := v })) zq529 rfl ⟨by first | rfl | simp [lnO, lnA], ?_⟩
    repeat (first | with_reducible exact Below.refl _ _ | with_reducible exact hB.out | (with_reducible refine Below.setCell ?_ (by simp) _) | (with_reducible refine Below.alloc ?_ (by simp) _))
namespace Byt
def cnt (c : Nat) : Nat := if c = 109 then 4 else 1
def opsP : List Nat -> Bool -> Ins -> List UInt8 -> List (List UInt8) -> Option (Ins × List UInt8)
 | [], _, i, g, T => if T.length = 0 then some (i, g) else none
 | c :: cs, m, i, g, T =>
  if m = true /\ T[0]?.getD [] ≠ [44] then none
  else match opdP i g c (T.drop (if m then 1 else 0)) with
   | none => none
   | some (i', g') => opsP cs true i' g' (T.drop ((if m then 1 else 0) + cnt c))
theorem reg_nil : reg [] = none := by decide
theorem number_nil : (number []).2 = false := by decide
theorem isName_nil : isName [] = false := by decide
theorem getD_ne {T : List (List UInt8)} {k : Nat} (h : T[k]?.getD [] ≠ []) : k < T.length := by
 refine Nat.lt_of_not_le fun hk => h ?_
 rw [List.getElem?_eq_none hk]; rfl
theorem opd_len (i : Ins) (g : List UInt8) (c : Nat) (T : List (List UInt8)) (x : Ins × List UInt8) (h : opdP i g c T = some x) : cnt c <= T.length := by
 unfold opdP at h
 unfold cnt
 split at h
 . next hc =>
   rw [if_neg (by omega)]
   have : T[0]?.getD [] ≠ [] := by
    intro e; rw [e] at h; simp [opdR, reg_nil] at h
   have := getD_ne this; omega
 . split at h
   . next hc =>
     rw [if_pos hc]
     simp only [opdM] at h
     split at h
     . next hh =>
       have : T[3]?.getD [] ≠ [] := by rw [hh.2.1]; simp
       have := getD_ne this; omega
     . simp at h
   . next h1 h2 =>
     rw [if_neg h2]
     have : T[0]?.getD [] ≠ [] := by
      intro e
      rw [e] at h; simp [isName_nil, opdN, number_nil] at h
     have := getD_ne this; omega
end Byt
def put8 (w : World) (b : Nat) (N : ByteArray) (i : Ins) (G : ByteArray) : World :=
 (((((((w.setCell ⟨b, 0, none⟩ (.string N)).setCell ⟨b, 1, none⟩ (.int .i64 i.op)).setCell ⟨b, 2, none⟩ (.int .i64 i.rd)).setCell ⟨b, 3, none⟩ (.int .i64 i.rs1)).setCell ⟨b, 4, none⟩ (.int .i64 i.rs2)).setCell ⟨b, 5, none⟩ (.int .i64 i.im)).setCell ⟨b, 6, none⟩ (.int .i64 i.ln)).setCell ⟨b, 7, none⟩ (.string G)
theorem Bx.put {w : World} {b : Nat} {N G N' G' : ByteArray} {i i' : Ins} (h : Bx w b N i G) : Bx (put8 w b N' i' G') b N' i' G' := by
 have h0 := h.c0
 have h1 := h.c1
 have h2 := h.c2
 have h3 := h.c3
 have h4 := h.c4
 have h5 := h.c5
 have h6 := h.c6
 have h7 := h.c7
 have hf := h.fro
 have hl := h.lt
 unfold put8
 refine ⟨?_, ?_, ?_, ?_, ?_, ?_, ?_, ?_, ?_, ?_⟩ <;> simp [go_sem, h0, h1, h2, h3, h4, h5, h6, h7, hf, hl]
theorem below_put8 {n : Nat} {w w' : World} (h : Below n w w') {b : Nat} (hn : n <= b) (N : ByteArray) (i : Ins) (G : ByteArray) : Below n w (put8 w' b N i G) := by
 unfold put8
 repeat (first | with_reducible exact h | (with_reducible refine Below.setCell ?_ hn _))
theorem Bx.put_ne {w : World} {b c : Nat} {N G N' G' : ByteArray} {i i' : Ins} (h : Bx w b N i G) (hbc : b ≠ c) : Bx (put8 w c N' i' G') b N i G := by
 have h0 := h.c0
 have h1 := h.c1
 have h2 := h.c2
 have h3 := h.c3
 have h4 := h.c4
 have h5 := h.c5
 have h6 := h.c6
 have h7 := h.c7
 have hf := h.fro
 have hl := h.lt
 have hcb : ¬ c = b := fun e => hbc e.symm
 unfold put8
 refine ⟨?_, ?_, ?_, ?_, ?_, ?_, ?_, ?_, ?_, ?_⟩ <;> simp [go_sem, h0, h1, h2, h3, h4, h5, h6, h7, hf, hl, hbc, hcb]
def oN (N : ByteArray) (o : Option (Ins × List UInt8)) : ByteArray := if o.isSome then N else ⟨#[]⟩
def oI (o : Option (Ins × List UInt8)) : Ins := (o.map Prod.fst).getD ins0
def oG (o : Option (Ins × List UInt8)) : ByteArray := ⟨((o.map Prod.snd).getD []).toArray⟩
theorem lnO_parts (N : ByteArray) (o : Option (Ins × List UInt8)) : lnO N o = .tuple #[.agg #[.string (oN N o), .int .i64 (oI o).op, .int .i64 (oI o).rd, .int .i64 (oI o).rs1, .int .i64 (oI o).rs2, .int .i64 (oI o).im, .int .i64 (oI o).ln, .string (oG o)], .bool o.isSome] := by
 cases o with
 | none => rfl
 | some x => obtain ⟨i, g⟩ := x; rfl
theorem drop_sh (S : ByteArray) (K : Nat) (h : K < S.size) : (S.data.toList.map UInt8.toNat).drop K = S[K].toNat :: (S.data.toList.map UInt8.toNat).drop (K + 1) := by
 have hl : K < (S.data.toList.map UInt8.toNat).length := by rw [List.length_map, Array.length_toList]; exact h
 rw [List.drop_eq_getElem_cons hl]; simp; rfl
theorem ops_no {cs : List Nat} {c : Nat} {K A : Nat} {i : Ins} {g : List UInt8} {L : List (List UInt8)} (hk : 0 < K) (hc : ¬ L[A]?.getD [] = [44]) : Byt.opsP (c :: cs) (decide (0 < K)) i g (L.drop A) = none := by
 rw [decide_eq_true hk]; simp only [Byt.opsP]; rw [if_pos ⟨trivial, by rw [drop_get, Nat.add_zero]; exact hc⟩]
theorem ops_yes {cs : List Nat} {c : Nat} {K A : Nat} {i : Ins} {g : List UInt8} {L : List (List UInt8)} (hc : 0 < K -> L[A]?.getD [] = [44]) : Byt.opsP (c :: cs) (decide (0 < K)) i g (L.drop A) = match Byt.opdP i g c (L.drop (A + if 0 < K then 1 else 0)) with | none => none | some (x, y) => Byt.opsP cs true x y (L.drop ((A + if 0 < K then 1 else 0) + Byt.cnt c)) := by
 by_cases hk : 0 < K
 . have := hc hk
   rw [decide_eq_true hk, if_pos hk]; simp only [Byt.opsP, if_true]; rw [if_neg (by rw [drop_get, Nat.add_zero]; exact fun h => h.2 this), List.drop_drop, List.drop_drop, Nat.add_assoc]; try rfl
 . rw [decide_eq_false hk, if_neg hk]; simp only [Byt.opsP, Bool.false_eq_true, false_and, if_false]; rw [List.drop_drop, List.drop_drop, Nat.add_zero, Nat.zero_add]; try rfl
theorem endA {w wc w1 : World} {N N1 G G1 : ByteArray} {i I1 : Ins} (hx : Bx wc w.heap.size N i G) (hy : Bx wc (w.heap.size + 1) ⟨#[]⟩ ⟨0, 0, 0, 0, 0, 0⟩ ⟨#[]⟩) (hb : Below w.heap.size w wc) (hb2 : Below wc.heap.size wc.drew w1) :
 Hid (Bx (w1.alloc (lnC N1 I1 G1)) w1.heap.size N1 I1 G1 /\ Bx (w1.alloc (lnC N1 I1 G1)) w.heap.size N i G /\ Bx (w1.alloc (lnC N1 I1 G1)) (w.heap.size + 1) ⟨#[]⟩ ⟨0, 0, 0, 0, 0, 0⟩ ⟨#[]⟩ /\ Below w.heap.size w (w1.alloc (lnC N1 I1 G1)) /\ w.heap.size + 2 <= w1.heap.size) := by
 have h3 : Below wc.heap.size wc w1 := (Below.refl _ _).drew.trans hb2
 have hl := hy.lt
 have hs := h3.size
 exact ⟨Bx.new _ _ _ _, (hx.more h3 hx.lt).alloc _, (hy.more h3 hy.lt).alloc _, (hb.trans (h3.mono hb.size)).alloc (by omega) _, by omega⟩
theorem endB {w wc w1 : World} {N N1 G G1 : ByteArray} {i I1 : Ins} (hx : Bx wc w.heap.size N i G) (hy : Bx wc (w.heap.size + 1) ⟨#[]⟩ ⟨0, 0, 0, 0, 0, 0⟩ ⟨#[]⟩) (hb : Below w.heap.size w wc) (h3 : Below wc.heap.size wc w1) (hz : Bx w1 wc.heap.size ⟨#[]⟩ ⟨0, 0, 0, 0, 0, 0⟩ ⟨#[]⟩) :
 Hid (Bx (put8 w1 wc.heap.size N1 I1 G1) wc.heap.size N1 I1 G1 /\ Bx (put8 w1 wc.heap.size N1 I1 G1) w.heap.size N i G /\ Bx (put8 w1 wc.heap.size N1 I1 G1) (w.heap.size + 1) ⟨#[]⟩ ⟨0, 0, 0, 0, 0, 0⟩ ⟨#[]⟩ /\ Below w.heap.size w (put8 w1 wc.heap.size N1 I1 G1) /\ w.heap.size + 2 <= wc.heap.size) := by
 have hl := hy.lt
 have hl2 := hx.lt
 exact ⟨hz.put, (hx.more h3 hx.lt).put_ne (by omega), (hy.more h3 hy.lt).put_ne (by omega), below_put8 (hb.trans (h3.mono hb.size)) (by omega) _ _ _, by omega⟩
theorem a_readOperands (N : ByteArray) (i : Ins) (g : List UInt8) (S : ByteArray) (hS : Hid (Nm.shape i.op = S)) (hlen : S.size <= 8) (hlet : Hid (∀ k (h : k < S.size), S[k].toNat = 100 \/ S[k].toNat = 115 \/ S[k].toNat = 116 \/ S[k].toNat = 109 \/ S[k].toNat = 106 \/ S[k].toNat = 117 \/ S[k].toNat = 105))
 (b o cap : Nat) (L : List (List UInt8)) (hL : L.length <= 5000) (w : World) (hw : Hid (StrsAt w b o L)) (hb : b < w.heap.size) (hs : Hid (Short L)) :
 CB 254 #[lnA N i ⟨g.toArray⟩, .slice (some ⟨b, o, none⟩) L.length cap] (lnO N (Byt.opsP (S.data.toList.map UInt8.toNat) false i g L)) w := by
 obtain ⟨T, hT⟩ := zn1 (Byt.opsP (S.data.toList.map UInt8.toNat) false i g L)
 rw [<- hT]
 have HT := hide1 hT
 clear hT
 obtain ⟨G, hG⟩ := zn1 (⟨g.toArray⟩ : ByteArray)
 rw [<- hG]
 have B2 : Below w.heap.size w ((w.alloc (lnC N i G)).alloc (lnC ⟨#[]⟩ ins0 ⟨#[]⟩)) := zq137
 have hX : Bx ((w.alloc (lnC N i G)).alloc (lnC ⟨#[]⟩ ins0 ⟨#[]⟩)) (w.heap.size + 1) ⟨#[]⟩ ins0 ⟨#[]⟩ := by
  have h := Bx.new (w.alloc (lnC N i G)) ⟨#[]⟩ ins0 ⟨#[]⟩
  simpa using h
 have hY : Bx ((w.alloc (lnC N i G)).alloc (lnC ⟨#[]⟩ ins0 ⟨#[]⟩)) w.heap.size N i G := (Bx.new w N i G).alloc _
 have HB := hide1 B2
 have HX := hide1 hX
 have HY := hide1 hY
 have HG := hide1 hG
 unfold lnC ins0 at HB HX HY
 clear B2 hX hY hG
 unfold lnA
 go_enter func254, ntmps254
 go_wp2_with (go_at_call 222; refine (a_Shape i.op _).mono ?_; rintro e w' ⟨rfl, rfl⟩; rw [hS.out])
 go_loopw [7, 8] (fun a k wr => ∃ (A K : Nat) (i' : Ins) (g' : List UInt8), A <= L.length /\ K <= S.size /\ a = .int .i64 A /\ k = .int .i64 K /\ Hid (Bx wr w.heap.size N i' ⟨g'.toArray⟩) /\ Hid (Bx wr (w.heap.size + 1) ⟨#[]⟩ ⟨0, 0, 0, 0, 0, 0⟩ ⟨#[]⟩) /\ Hid (Below w.heap.size w wr) /\ Hid (T = Byt.opsP ((S.data.toList.map UInt8.toNat).drop K) (decide (0 < K)) i' g' (L.drop A))) (fun _ k _ => S.size - (intOf k).toNat)
 case atStart => exact ⟨0, 0, i, g, by omega, by omega, rfl, rfl, by rw [<- HG.out]; exact HY, HX, HB, by simpa using HT⟩
 case round =>
  obtain ⟨A, K, i', g', hA, hK, rfl, rfl, hx, hy, hb1, hh⟩ := hrel
  clear HB HX HY HG HT
  by_cases hlt : K < S.size
  . rw [drop_sh S K hlt] at hh
    obtain ⟨c, hc⟩ := zn1 (S[K].toNat)
    rw [<- hc] at hh
    have hcl := hlet.out K hlt
    rw [<- hc] at hcl
    have HC := hide1 hc
    have HCL := hide1 hcl
    clear hc hcl
    have hws := StrsAt.more hw hb hb1.out
    have hbr : b < wr.heap.size := Nat.lt_of_lt_of_le hb hb1.out.size
    obtain ⟨A', hA'⟩ : ∃ A', A' = A + if 0 < K then 1 else 0 := ⟨_, rfl⟩
    have hAl : A' <= 9000 := by rw [hA']; split <;> omega
    have HA := hide1 hA'
    clear hA'
    go_upto_if 22 with fail
    go_cut [7] from 22 to 29 (fun a wx => a = .int .i64 (A' : Int) /\ wx = wr /\ Hid (0 < K -> L[A]?.getD [] = [44]))
    case first =>
     by_cases hk : 0 < K
     . have hk' : decide (0 < K) = true := by simp [hk]
       have c0 := fun w hw => a_tokenAt b o cap L hL A (by omega) w hw
       obtain ⟨t0, h0⟩ := zn1 (L[A]?.getD [])
       rw [<- h0] at c0
       have H0 := hide1 h0
       clear h0
       obtain ⟨X0, e0⟩ := zn1 (⟨t0.toArray⟩ : ByteArray)
       rw [show Byt.strV t0 = .string X0 by rw [e0]; rfl] at c0
       have f0 : X0.data.toList = t0 := by rw [e0]
       clear e0
       rw [<- f0] at H0
       clear f0
       have C0 := hide1 c0
       clear c0
       have q1 : (X0.toList == [44]) = decide (X0.data.toList = [44]) := eq_lit X0 [44]
       by_cases k1 : X0.data.toList = [44]
       . rw [decide_eq_true k1] at q1
         have HK1 := hide1 k1
         have hA1 : Hid ((A' : Int) = A + 1) := by
          have := HA.out
          rw [if_pos hk] at this
          show (A' : Int) = A + 1
          omega
         clear k1 HA
         go_wp2_with (go_at_call 328; refine (C0.out _ hws).mono ?_; rintro e w' ⟨rfl, rfl⟩)
         go_meet
         case rel => exact ⟨by rw [hA1.out], rfl, fun _ => by rw [<- H0.out]; exact HK1.out⟩
       . rw [decide_eq_false k1] at q1
         have hno : Hid (T = none) := by
          show T = none
          rw [hh.out]
          exact ops_no hk (by rw [<- H0.out]; exact k1)
         clear k1 HA hh
         have z0 := hy.out.c0
         have z1 := hy.out.c1
         have z2 := hy.out.c2
         have z3 := hy.out.c3
         have z4 := hy.out.c4
         have z5 := hy.out.c5
         have z6 := hy.out.c6
         have z7 := hy.out.c7
         have zf := hy.out.fro
         have zl := hy.out.lt
         go_wp2_with (go_at_call 328; refine (C0.out _ hws).mono ?_; rintro e w' ⟨rfl, rfl⟩)
         refine bodyPost_ret (v := lnO N none) zq530 rfl ⟨by rw [hno.out], ?_⟩
         exact zq351
     . have hk' : decide (0 < K) = false := by simp [hk]
       have hA1 : Hid ((A' : Int) = A) := by
        have := HA.out
        rw [if_neg hk] at this
        show (A' : Int) = A
        omega
       have HK := hide1 hk
       obtain rfl : K = 0 := by omega
       clear hk hk' HA
       go_wp2
       go_meet
       case rel => exact ⟨by rw [hA1.out], rfl, fun h => absurd h HK.out⟩
    case rest =>
     obtain ⟨rfl, rfl, hcm⟩ := hcut
     rw [ops_yes hcm.out, <- HA.out] at hh
     have hcc := HC.out
     obtain ⟨O, hO⟩ := zn1 (Byt.opdP i' g' c (L.drop A'))
     rw [<- hO] at hh
     have hOl : O.isSome = true -> A' + Byt.cnt c <= L.length := by
      intro h
      obtain ⟨x, hx⟩ := Option.isSome_iff_exists.1 h
      have h1 := Byt.opd_len i' g' c (L.drop A') x (by rw [<- hO]; exact hx)
      rw [List.length_drop] at h1
      have : 1 <= Byt.cnt c := by unfold Byt.cnt; split <;> omega
      omega
     have HOl := hide1 hOl
     have hcall : ∀ W : World, Below wc.heap.size wc W -> CB 329 #[.agg #[.string N, .int .i64 i'.op, .int .i64 i'.rd, .int .i64 i'.rs1, .int .i64 i'.rs2, .int .i64 i'.im, .int .i64 i'.ln, .string ⟨g'.toArray⟩], .int .u8 c, .slice (some ⟨b, o, none⟩) L.length cap, .int .i64 A'] (.tuple #[.agg #[.string (oN N O), .int .i64 (oI O).op, .int .i64 (oI O).rd, .int .i64 (oI O).rs1, .int .i64 (oI O).rs2, .int .i64 (oI O).im, .int .i64 (oI O).ln, .string (oG O)], .bool O.isSome]) W := by
      intro W hW
      have h := a_readOperand N g' i' c HCL.out b o cap L hL A' hAl W (StrsAt.more hws hbr hW) (Nat.lt_of_lt_of_le hbr hW.size) hs
      rw [<- hO, lnO_parts] at h
      exact h
     have hci : S[K].toNat = c := hcc.symm
     clear hOl hO HA hcm HC hcc
     have x0 := hx.out.c0
     have x1 := hx.out.c1
     have x2 := hx.out.c2
     have x3 := hx.out.c3
     have x4 := hx.out.c4
     have x5 := hx.out.c5
     have x6 := hx.out.c6
     have x7 := hx.out.c7
     have xf := hx.out.fro
     have xl := hx.out.lt
     obtain ⟨I1, hI1⟩ := zn1 (oI O)
     obtain ⟨N1, hN1⟩ := zn1 (oN N O)
     obtain ⟨G1, hG1⟩ := zn1 (oG O)
     obtain ⟨ob, hob⟩ := zn1 (O.isSome)
     rw [<- hI1, <- hN1, <- hG1, <- hob] at hcall
     have HP := hide1 (And.intro hI1 (And.intro hN1 (And.intro hG1 hob)))
     clear hI1 hN1 hG1 hob
     have HCA := hide1 ((hcall wc.drew (Below.refl _ _).drew).mono fun e w1 h => (⟨h.1, h.2⟩ : _ /\ Below wc.heap.size wc.drew w1))
     have hnz := (Bx.new wc ⟨#[]⟩ ⟨0, 0, 0, 0, 0, 0⟩ ⟨#[]⟩).more (w' := (wc.alloc (lnC ⟨#[]⟩ ⟨0, 0, 0, 0, 0, 0⟩ ⟨#[]⟩)).drew) (n := wc.heap.size + 1) ((Below.refl _ _).drew) (by omega)
     have hwz : Below wc.heap.size wc (wc.alloc (lnC ⟨#[]⟩ ⟨0, 0, 0, 0, 0, 0⟩ ⟨#[]⟩)).drew := ((Below.refl _ _).alloc (Nat.le_refl _) _).drew
     have HCB := hide1 ((hcall (wc.alloc (lnC ⟨#[]⟩ ⟨0, 0, 0, 0, 0, 0⟩ ⟨#[]⟩)).drew hwz).mono fun e w1 h => (⟨h.1, hwz.trans (h.2.mono hwz.size), hide1 (hnz.more h.2 hnz.lt)⟩ : _ /\ Below wc.heap.size wc w1 /\ Hid (Bx w1 wc.heap.size ⟨#[]⟩ ⟨0, 0, 0, 0, 0, 0⟩ ⟨#[]⟩)))
     unfold lnC at HCB
     clear hcall hnz hwz
     go_upto_region 10 with fail
     go_cut [9, 10] from 30 to 39 (fun p q wx => ∃ nb : Nat, p = .pointer (some ⟨nb, 0, none⟩) /\ q = .bool ob /\ Hid (Bx wx nb N1 I1 G1 /\ Bx wx w.heap.size N i' ⟨g'.toArray⟩ /\ Bx wx (w.heap.size + 1) ⟨#[]⟩ ⟨0, 0, 0, 0, 0, 0⟩ ⟨#[]⟩ /\ Below w.heap.size w wx /\ w.heap.size + 2 <= nb))
     case first =>
      go_region_with (go_at_call 329; first | (with_reducible refine HCA.out.mono ?_; rintro e w1 ⟨rfl, hb2⟩) | (with_reducible refine HCB.out.mono ?_; rintro e w1 ⟨rfl, hb2, hz⟩; have z0 := hz.out.c0; have z1 := hz.out.c1; have z2 := hz.out.c2; have z3 := hz.out.c3; have z4 := hz.out.c4; have z5 := hz.out.c5; have z6 := hz.out.c6; have z7 := hz.out.c7; have zf := hz.out.fro; have zl := hz.out.lt))
      all_goals (go_wp2_with fail; go_meet)
      all_goals first | (refine ⟨w1.heap.size, by with_reducible rfl, rfl, ?_⟩; exact endA hx.out hy.out hb1.out hb2) | (refine ⟨wc.heap.size, by with_reducible rfl, rfl, ?_⟩; exact endB hx.out hy.out hb1.out hb2 hz.out)
     case rest =>
      obtain ⟨nb, rfl, rfl, hq⟩ := hcut
      clear HCA HCB x0 x1 x2 x3 x4 x5 x6 x7 xf xl hx hy hb1 hws hbr hw hs
      have hx := hq.out.2.1
      have hy := hq.out.2.2.1
      have hz := hq.out.1
      have hb1 := hide1 hq.out.2.2.2.1
      have hnb := hq.out.2.2.2.2
      have HX := hide1 hx
      have HY := hide1 hy
      have x0 := hx.c0
      have x1 := hx.c1
      have x2 := hx.c2
      have x3 := hx.c3
      have x4 := hx.c4
      have x5 := hx.c5
      have x6 := hx.c6
      have x7 := hx.c7
      have xf := hx.fro
      have xl := hx.lt
      have y0 := hz.c0
      have y1 := hz.c1
      have y2 := hz.c2
      have y3 := hz.c3
      have y4 := hz.c4
      have y5 := hz.c5
      have y6 := hz.c6
      have y7 := hz.c7
      have yf := hz.fro
      have yl := hz.lt
      have z0 := hy.c0
      have z1 := hy.c1
      have z2 := hy.c2
      have z3 := hy.c3
      have z4 := hy.c4
      have z5 := hy.c5
      have z6 := hy.c6
      have z7 := hy.c7
      have zf := hy.fro
      have zl := hy.lt
      clear hx hy hz hq
      cases O with
      | none =>
       obtain ⟨h1, h2, h3, h4⟩ := HP.out
       have h4' : ob = false := h4
       subst h4'
       have hno : Hid (T = none) := hh
       clear h1 h2 h3 h4 HP hh HOl
       go_wp2
       refine bodyPost_ret (v := lnO N none) zq530 rfl ⟨by rw [hno.out], ?_⟩
       repeat (first | with_reducible exact Below.refl _ _ | with_reducible exact hb1.out | (with_reducible refine Below.setCell ?_ (by simp) _) | (with_reducible refine Below.alloc ?_ (by simp) _))
      | some r =>
       obtain ⟨x, y⟩ := r
       obtain ⟨h1, h2, h3, h4⟩ := HP.out
       have h4' : ob = true := h4
       subst h4'
       have h1' : I1 = x := h1
       have h2' : N1 = N := h2
       have h3' : G1 = ⟨y.toArray⟩ := h3
       subst h1' h2' h3'
       have hgo : Hid (T = Byt.opsP ((S.data.toList.map UInt8.toNat).drop (K + 1)) true I1 y (L.drop (A' + Byt.cnt c))) := hh
       have hAK : A' + Byt.cnt c <= L.length := HOl.out rfl
       clear h1 h2 h3 h4 HP hh HOl
       have hop : ∀ W, CS 330 #[.int .u8 c] (.int .i64 (Byt.cnt c : Nat)) W := fun W => a_operandTokens c W
       obtain ⟨Q, hQ⟩ := zn1 (Byt.cnt c)
       rw [<- hQ] at hop hAK hgo
       have HOP := hide1 hop
       clear hop hQ
       go_wp2_with (go_at_call 330; refine (HOP.out _).mono ?_; rintro e w' ⟨rfl, rfl⟩)
       go_roundw
       case rel =>
        first
         | exact ⟨A' + Q, K + 1, I1, y, hAK, by omega, by go_num, by go_num, hide1 (Bx.put HX.out), hide1 (HY.out.put_ne (by omega)), hide1 (below_put8 hb1.out (Nat.le_refl _) _ _ _), by rw [decide_eq_true (Nat.succ_pos K)]; exact hgo⟩
         | ((repeat apply Exists.intro); exact ⟨⟨A' + Q, K + 1, I1, y, hAK, by omega, by go_num, by go_num, hide1 (Bx.put HX.out), hide1 (HY.out.put_ne (by omega)), hide1 (below_put8 hb1.out (Nat.le_refl _) _ _ _), by rw [decide_eq_true (Nat.succ_pos K)]; exact hgo⟩, rfl⟩)
       case measure => exact zq188
  . have hlt' : decide ((K : Int) < (S.size : Int)) = false := by simp; omega
    have hx' := hx.out
    have hy' := hy.out
    have x0 := hx'.c0
    have x1 := hx'.c1
    have x2 := hx'.c2
    have x3 := hx'.c3
    have x4 := hx'.c4
    have x5 := hx'.c5
    have x6 := hx'.c6
    have x7 := hx'.c7
    have xf := hx'.fro
    have xl := hx'.lt
    have z0 := hy'.c0
    have z1 := hy'.c1
    have z2 := hy'.c2
    have z3 := hy'.c3
    have z4 := hy'.c4
    have z5 := hy'.c5
    have z6 := hy'.c6
    have z7 := hy'.c7
    have zf := hy'.fro
    have zl := hy'.lt
    clear hx' hy'
    rw [List.drop_eq_nil_of_le (by rw [List.length_map, Array.length_toList]; show S.size <= K; omega)] at hh
    by_cases hAL : A = L.length
    . have hT : Hid (T = some (i', g')) := by
       show T = _
       rw [hh.out]; simp only [Byt.opsP]; rw [if_pos (by rw [List.length_drop]; omega)]
      have q1 : ((A : Int) != (L.length : Int)) = false := by simp; omega
      have q2 : (A != L.length) = false := by simp; omega
      clear hh
      go_wp2
      refine bodyPost_ret (v := lnO N (some (i', g'))) (by simp [results, results254, go_sem, lnO, lnA, ins0, x0, x1, x2, x3, x4, x5, x6, x7, xf, xl, z0, z1, z2, z3, z4, z5, z6, z7, zf, zl]) rfl ⟨by rw [hT.out], ?_⟩
      exact zq351
    . have hT : Hid (T = none) := by
       show T = _
       rw [hh.out]; simp only [Byt.opsP]; rw [if_neg (by rw [List.length_drop]; omega)]
      have q1 : ((A : Int) != (L.length : Int)) = true := by simp; omega
      have q2 : (A != L.length) = true := by simp; omega
      clear hh
      go_wp2
      refine bodyPost_ret (v := lnO N none) zq530 rfl ⟨by rw [hT.out], ?_⟩
      exact zq351
namespace Byt
def nls : List UInt8 -> Nat
 | [] => 0
 | c :: l => (if c.toNat = 10 then 1 else 0) + nls l
def findN : List Ln -> List UInt8 -> Nat
 | [], _ => 0
 | l :: L, n => if l.nm = n then 0 else findN L n + 1
theorem findN_le : ∀ L n, findN L n <= L.length
 | [], _ => Nat.le_refl _
 | l :: L, n => by have := findN_le L n; simp only [findN, List.length_cons]; split <;> omega
def shp (op : Nat) : List Nat := (Nm.shape op).data.toList.map UInt8.toNat
def readR (nm : List UInt8) (T : List (List UInt8)) : Int × Ln :=
 match T with
 | [] => (0, ⟨nm, ins0, []⟩)
 | t :: T => if (wrd t).2 = 0 then (5, ln0) else
  match opsP (shp (wrd t).1) false ⟨(wrd t).1, 0, 0, 0, 0, (wrd t).2⟩ [] T with
  | none => (6, ln0)
  | some (i, g) => (0, ⟨nm, i, g⟩)
def readLn (T : List (List UInt8)) (E : List Ln) : Int × Ln :=
 if 1 < T.length /\ T[1]?.getD [] = [58] then
  if isName (T[0]?.getD []) = true then
   if findN E (T[0]?.getD []) < E.length then (9, ln0) else readR (T[0]?.getD []) (T.drop 2)
  else (5, ln0)
 else readR [] T
def segs (pre : List UInt8) : List UInt8 -> List (List UInt8)
 | [] => [pre]
 | c :: l => if c.toNat = 10 then pre :: segs [] l else segs (pre ++ [c]) l
def readAll : List Ln -> List (List UInt8) -> List Ln × Int × Nat
 | E, [] => (E, 0, 0)
 | E, t :: ts => if (readLn (tok t.length t) E).1 = 0 then readAll (E ++ [(readLn (tok t.length t) E).2]) ts else ([], (readLn (tok t.length t) E).1, E.length + 1)
def place : List Ln -> Nat -> Int
 | [], _ => 0
 | _, 0 => 0
 | l :: L, n + 1 => l.i.ln + place L n
def dataD (v least most : Int) : Int × Int := if v < least \/ most < v then (0, 7) else (v, 0)
def wordD (i : Ins) : Int × Int :=
 if i.ln = 0 then (0, 0) else if i.op = 71 then dataD i.im (-2147483648) 4294967295 else if i.op = 72 then dataD i.im (-32768) 65535 else
 if (encodeD i).2 = 0 then ((encodeD i).1, 0) else (0, 7)
def leB (v : Int) (n : Nat) : List UInt8 := (strOfNums (leL v n)).data.toList
def aimed (L : List Ln) (l : Ln) (n : Nat) : Ins := if l.tg = [] then l.i else { l.i with im := place L (findN L l.tg) - n }
def lay (L : List Ln) : List Ln -> Nat -> List UInt8 -> List UInt8 × Int × Nat
 | [], _, m => (m, 0, 0)
 | l :: ls, k, m =>
  if l.tg ≠ [] /\ findN L l.tg = L.length then ([], 8, k + 1) else
  if (wordD (aimed L l m.length)).2 = 0 then lay L ls (k + 1) (m ++ leB (wordD (aimed L l m.length)).1 l.i.ln.toNat) else ([], (wordD (aimed L l m.length)).2, k + 1)
def asmD (t : List UInt8) : List UInt8 × Int × Nat :=
 if 4096 < t.length then ([], 1, 0) else if 256 < 1 + nls t then ([], 4, 0) else
 if (readAll [] (segs [] t)).2.1 = 0 then lay (readAll [] (segs [] t)).1 (readAll [] (segs [] t)).1 0 [] else ([], (readAll [] (segs [] t)).2.1, (readAll [] (segs [] t)).2.2)
end Byt
theorem a_countLines (s : ByteArray) (hs : s.size <= 5000) (w : World) :
 CS 123 #[.string s] (.int .i64 ((1 + Byt.nls s.data.toList : Nat) : Int)) w := by
 obtain ⟨T, hT⟩ := zn1 (1 + Byt.nls s.data.toList)
 rw [<- hT]
 have HT := hide1 hT
 clear hT
 go_enter func123, ntmps123
 go_wp2
 go_loop [3, 4] (fun c d => ∃ a n : Nat, a <= s.size /\ n <= 1 + a /\ c = .int .i64 n /\ d = .int .i64 a /\ Hid (T = n + Byt.nls (s.data.toList.drop a))) (fun _ d => s.size - (intOf d).toNat)
 case atStart => exact ⟨0, 1, by omega, by omega, rfl, rfl, HT⟩
 case round =>
  obtain ⟨a, n, ha, hn, rfl, rfl, hh⟩ := hrel
  by_cases hlt : a < s.size
  . have hv : T = n + ((if s[a].toNat = 10 then 1 else 0) + Byt.nls (s.data.toList.drop (a + 1))) := by rw [hh.out, dropb s a hlt]; rfl
    by_cases hc : s[a].toNat = 10
    . have hc' : ((s[a].toNat : Int) == 10) = true := by simp; omega
      rw [if_pos hc] at hv
      have HV := hide1 hv
      clear hv hh HT hc
      go_wp2
      go_round
      case rel => exact ⟨a + 1, n + 1, by omega, by omega, by go_num, by go_num, by show T = _; rw [HV.out]; omega⟩
      case measure => exact zq188
    . have hc' : ((s[a].toNat : Int) == 10) = false := by simp; omega
      rw [if_neg hc] at hv
      have HV := hide1 hv
      clear hv hh HT hc
      go_wp2
      go_round
      case rel => exact ⟨a + 1, n, by omega, by omega, rfl, by go_num, by show T = _; rw [HV.out]; omega⟩
      case measure => exact zq188
  . have hlt' : decide ((a : Int) < (s.size : Int)) = false := by simp; omega
    have hT : Hid (T = n) := (by rw [hh.out, List.drop_eq_nil_of_le (by simp; omega)]; rfl : T = n)
    clear hh HT
    exact zq191
structure Cx (w : World) (b o : Nat) (l : Ln) : Prop where
 c0 : w.cell? ⟨b, o, none⟩ = some (.string ⟨l.nm.toArray⟩)
 c1 : w.cell? ⟨b, o + 1, none⟩ = some (.int .i64 l.i.op)
 c2 : w.cell? ⟨b, o + 2, none⟩ = some (.int .i64 l.i.rd)
 c3 : w.cell? ⟨b, o + 3, none⟩ = some (.int .i64 l.i.rs1)
 c4 : w.cell? ⟨b, o + 4, none⟩ = some (.int .i64 l.i.rs2)
 c5 : w.cell? ⟨b, o + 5, none⟩ = some (.int .i64 l.i.im)
 c6 : w.cell? ⟨b, o + 6, none⟩ = some (.int .i64 l.i.ln)
 c7 : w.cell? ⟨b, o + 7, none⟩ = some (.string ⟨l.tg.toArray⟩)
def LnsAt (w : World) (p : Option Addr) (L : List Ln) : Prop := L = [] \/ ∃ b, p = some ⟨b, 0, none⟩ /\ ∀ j (h : j < L.length), Cx w b (j * 8) L[j]
theorem findN_drop (L : List Ln) (n : List UInt8) (a : Nat) (h : a < L.length) : a + Byt.findN (L.drop a) n = if L[a].nm = n then a else (a + 1) + Byt.findN (L.drop (a + 1)) n := by
 rw [List.drop_eq_getElem_cons h]; simp only [Byt.findN]; split <;> omega
theorem a_findName (p : Option Addr) (cap : Nat) (L : List Ln) (hL : L.length <= 5000) (s : ByteArray) (w : World) (hw : Hid (LnsAt w p L)) :
 CS 183 #[.slice p L.length cap, .string s] (.int .i64 (Byt.findN L s.data.toList)) w := by
 obtain ⟨T, hT⟩ := zn1 (Byt.findN L s.data.toList)
 rw [<- hT]
 have HT := hide1 hT
 clear hT
 go_enter func183, ntmps183
 go_wp2
 go_loop [5] (fun d => ∃ a : Nat, a <= L.length /\ d = .int .i64 a /\ Hid (T = a + Byt.findN (L.drop a) s.data.toList)) (fun d => L.length - (intOf d).toNat)
 case atStart => exact ⟨0, by omega, rfl, by simpa using HT⟩
 case round =>
  obtain ⟨a, ha, rfl, hh⟩ := hrel
  by_cases hlt : a < L.length
  . rcases hw.out with h0 | ⟨b, rfl, hcx⟩
    . exact zq352
    have h0 := (hcx a hlt).c0
    rw [findN_drop L _ a hlt] at hh
    clear hcx hw HT
    obtain ⟨X, hX⟩ := zn1 (⟨L[a].nm.toArray⟩ : ByteArray)
    have he := eq_str s X _ hX
    rw [<- hX] at h0
    by_cases hc : s.data.toList = L[a].nm
    . rw [if_pos hc.symm] at hh
      rw [decide_eq_true hc] at he
      have he' : (X.toList == s.toList) = true := by rw [beq_iff_eq] at he |-; exact he.symm
      clear hc hX he
      go_wp2
      go_ret
      exact ⟨by rw [hh.out]; rfl, rfl⟩
    . rw [if_neg (fun h => hc h.symm)] at hh
      rw [decide_eq_false hc] at he
      have he' : (X.toList == s.toList) = false := by rw [beq_eq_false_iff_ne] at he |-; exact fun h => he h.symm
      clear hc hX he
      go_wp2
      go_round
      case rel => exact ⟨a + 1, by omega, by go_num, hh⟩
      case measure => exact zq188
  . have hT : Hid (T = L.length) := (by rw [hh.out, List.drop_eq_nil_of_le (by omega)]; simp [Byt.findN]; omega : T = L.length)
    clear hh HT hw
    exact zq191
theorem place_drop (L : List Ln) (n a : Nat) (h1 : a < L.length) (h2 : a < n) : Byt.place (L.drop a) (n - a) = L[a].i.ln + Byt.place (L.drop (a + 1)) (n - (a + 1)) := by
 rw [List.drop_eq_getElem_cons h1, show n - a = (n - (a + 1)) + 1 by omega]; rfl
def Tidy (L : List Ln) : Prop := ∀ l ∈ L, l.i.ln = 0 \/ l.i.ln = 2 \/ l.i.ln = 4
theorem a_placeOf (p : Option Addr) (cap : Nat) (L : List Ln) (hL : L.length <= 5000) (hd : Hid (Tidy L)) (n : Nat) (hn : n <= 5000) (w : World) (hw : Hid (LnsAt w p L)) :
 CS 184 #[.slice p L.length cap, .int .i64 n] (.int .i64 (Byt.place L n)) w := by
 obtain ⟨T, hT⟩ := zn1 (Byt.place L n)
 rw [<- hT]
 have HT := hide1 hT
 clear hT
 go_enter func184, ntmps184
 go_wp2
 go_loop [5, 6] (fun c d => ∃ (a : Nat) (q : Nat), a <= L.length /\ a <= n /\ q <= 4 * a /\ c = .int .i64 q /\ d = .int .i64 a /\ Hid (T = q + Byt.place (L.drop a) (n - a))) (fun _ d => L.length - (intOf d).toNat)
 case atStart => exact ⟨0, 0, by omega, by omega, by omega, rfl, rfl, by simpa using HT⟩
 case round =>
  obtain ⟨a, q, ha, han, hq, rfl, rfl, hh⟩ := hrel
  by_cases hlt : a < L.length
  . by_cases hln : a < n
    . rcases hw.out with h0 | ⟨b, rfl, hcx⟩
      . exact zq352
      have h0 := (hcx a hlt).c6
      rw [place_drop L n a hlt hln] at hh
      have hz := hd.out L[a] (List.getElem_mem hlt)
      obtain ⟨z, hz', hz4⟩ : ∃ z : Nat, L[a].i.ln = z /\ z <= 4 := ⟨L[a].i.ln.toNat, by omega, by omega⟩
      rw [hz'] at h0 hh
      clear hcx hw HT hd hz hz'
      go_wp2
      go_round
      case rel => exact ⟨a + 1, q + z, by omega, by omega, by omega, by go_num, by go_num, by show T = _; rw [hh.out]; simp; omega⟩
      case measure => exact zq188
    . have hT : Hid (T = q) := (by rw [hh.out, show n - a = 0 by omega]; cases L.drop a <;> simp [Byt.place] : T = q)
      clear hh HT hw hd
      exact zq191
  . have hT : Hid (T = q) := (by rw [hh.out, List.drop_eq_nil_of_le (by omega)]; simp [Byt.place] : T = q)
    clear hh HT hw hd
    go_wp2
    all_goals go_ret
    all_goals exact ⟨by rw [hT.out]; rfl, rfl⟩
theorem a_dataOf (v a b : Int) (w : World) :
 CS 255 #[.int .i64 v, .int .i64 a, .int .i64 b] (.tuple #[.int .i64 (if v < a \/ b < v then 0 else v), .int .i64 (if v < a \/ b < v then 7 else 0)]) w := by
 by_cases h1 : v < a
 . rw [if_pos (Or.inl h1), if_pos (Or.inl h1)]
   exact zq353
 . by_cases h2 : b < v
   . rw [if_pos (Or.inr h2), if_pos (Or.inr h2)]
     exact zq353
   . rw [if_neg (by omega), if_neg (by omega)]
     exact zq353
theorem shapes_ok : ((List.range 73).all fun n => decide ((Nm.shape n).size <= 8) && (Nm.shape n).data.toList.all fun c => c.toNat == 100 || c.toNat == 115 || c.toNat == 116 || c.toNat == 109 || c.toNat == 106 || c.toNat == 117 || c.toNat == 105) = true := by decide +kernel
theorem shape_ok (n : Nat) (h : n <= 72) : (Nm.shape n).size <= 8 /\ ∀ k (h : k < (Nm.shape n).size), (Nm.shape n)[k].toNat = 100 \/ (Nm.shape n)[k].toNat = 115 \/ (Nm.shape n)[k].toNat = 116 \/ (Nm.shape n)[k].toNat = 109 \/ (Nm.shape n)[k].toNat = 106 \/ (Nm.shape n)[k].toNat = 117 \/ (Nm.shape n)[k].toNat = 105 := by
 have h1 := List.all_eq_true.1 shapes_ok n (by simp; omega)
 rw [Bool.and_eq_true, decide_eq_true_eq, List.all_eq_true] at h1
 refine ⟨h1.1, fun k hk => ?_⟩
 have h2 := h1.2 (Nm.shape n)[k] (by
  have : (Nm.shape n)[k] = (Nm.shape n).data.toList[k]'(by rw [Array.length_toList]; exact hk) := rfl
  rw [this]; exact List.getElem_mem _)
 simp only [Bool.or_eq_true, beq_iff_eq] at h2
 omega
theorem wrdFrom_le (t : List UInt8) : ∀ f op, (Byt.wrdFrom t f op).1 < op + f \/ (Byt.wrdFrom t f op) = (0, 0)
 | 0, op => .inr rfl
 | f + 1, op => by
  have ih := wrdFrom_le t f (op + 1)
  unfold Byt.wrdFrom
  split
  . left; simp
  . split
    . left; simp
    . rcases ih with h | h
      . left; omega
      . right; exact h
theorem wrd_le (t : List UInt8) : (Byt.wrd t).1 <= 72 := by
 unfold Byt.wrd
 split
 . decide
 . split
   . decide
   . rcases wrdFrom_le t 70 1 with h | h
     . omega
     . rw [h]; decide
theorem slice_drop (b o cap : Nat) (L : List (List UInt8)) (k : Nat) (n : Int) (hn : n = k) (hk : k <= L.length) (hcap : L.length <= cap) : ∃ o' cap', (∀ w, (Instr.slice 165 (.slice (some ⟨b, o, none⟩) L.length cap) (some (.int .i64 n)) none none).run prog w = .ok (.slice (some ⟨b, o', none⟩) (L.drop k).length cap') w) /\ (L.drop k).length <= cap' /\ (∀ w, StrsAt w b o L -> StrsAt w b o' (L.drop k)) := by
 have hr : ∀ w, (Instr.slice 165 (.slice (some ⟨b, o, none⟩) L.length cap) (some (.int .i64 n)) none none).run prog w = .ok (.slice (if cap = k then some ⟨b, o, none⟩ else some ⟨b, o + k, none⟩) (L.drop k).length (cap - k)) w := by
  intro w
  have hu : prog.underlying 165 = some (.slice (prog.elem 165)) := by kernel_rfl
  have h := run_slice_l (P := prog) w 165 (some ⟨b, o, none⟩) L.length cap hu .i64 n (by omega) (by omega)
  rw [h]
  have hz : (_root_.Go.sizeOf (prog.elem 165)).run prog w = .ok 1 w := by kernel_rfl
  rw [hz]
  simp only [Result.andThen, sliced, List.length_drop]
  rw [show n.toNat = k by omega, Nat.mul_one, Option.map_some, show (⟨b, o, none⟩ : Addr).add k = ⟨b, o + k, none⟩ by simp [Addr.add]]
 by_cases hc : cap = k
 . refine ⟨o, cap - k, fun w => by rw [hr w, if_pos hc], by rw [List.length_drop]; omega, fun w _ j hj => ?_⟩
   rw [List.length_drop] at hj; omega
 . exact ⟨o + k, cap - k, fun w => by rw [hr w, if_neg hc], by rw [List.length_drop]; omega, fun w h => h.drop k⟩
theorem Cx.below {w w' : World} {b o n : Nat} {l : Ln} (h : Cx w b o l) (hb : Below n w w') (hn : b < n) : Cx w' b o l :=
 ⟨(hb.cell (p := ⟨b, o, none⟩) hn).trans h.c0, (hb.cell (p := ⟨b, o + 1, none⟩) hn).trans h.c1, (hb.cell (p := ⟨b, o + 2, none⟩) hn).trans h.c2, (hb.cell (p := ⟨b, o + 3, none⟩) hn).trans h.c3, (hb.cell (p := ⟨b, o + 4, none⟩) hn).trans h.c4, (hb.cell (p := ⟨b, o + 5, none⟩) hn).trans h.c5, (hb.cell (p := ⟨b, o + 6, none⟩) hn).trans h.c6, (hb.cell (p := ⟨b, o + 7, none⟩) hn).trans h.c7⟩
theorem LnsAt.below {w w' : World} {p : Option Addr} {n : Nat} {L : List Ln} (h : LnsAt w p L) (hb : Below n w w') (hn : ∀ a, p = some a -> a.block < n) : LnsAt w' p L := by
 rcases h with h | ⟨b, rfl, h⟩
 . exact .inl h
 . exact .inr ⟨b, rfl, fun j hj => (h j hj).below hb (hn _ rfl)⟩
theorem readR_no (nm : List UInt8) (t : List UInt8) (LT : List (List UInt8)) (h : (Byt.wrd t).2 = 0) : Byt.readR nm (t :: LT) = (5, ln0) := by
 unfold Byt.readR; simp only; rw [if_pos h]
theorem readR_bad (nm : List UInt8) (t : List UInt8) (LT : List (List UInt8)) (h : ¬ (Byt.wrd t).2 = 0) (ho : Byt.opsP (Byt.shp (Byt.wrd t).1) false ⟨(Byt.wrd t).1, 0, 0, 0, 0, (Byt.wrd t).2⟩ [] LT = none) : Byt.readR nm (t :: LT) = (6, ln0) := by
 unfold Byt.readR; simp only; rw [if_neg h, ho]
theorem readR_yes (nm : List UInt8) (t : List UInt8) (LT : List (List UInt8)) (h : ¬ (Byt.wrd t).2 = 0) {i : Ins} {g : List UInt8} (ho : Byt.opsP (Byt.shp (Byt.wrd t).1) false ⟨(Byt.wrd t).1, 0, 0, 0, 0, (Byt.wrd t).2⟩ [] LT = some (i, g)) : Byt.readR nm (t :: LT) = (0, ⟨nm, i, g⟩) := by
 unfold Byt.readR; simp only; rw [if_neg h, ho]
theorem readLn_not {L : List (List UInt8)} {E : List Ln} (h : ¬ (1 < L.length /\ L[1]?.getD [] = [58])) : Byt.readLn L E = Byt.readR [] L := by
 unfold Byt.readLn; rw [if_neg h]
theorem readLn_word {L : List (List UInt8)} {E : List Ln} (h : 1 < L.length /\ L[1]?.getD [] = [58]) (hn : ¬ Byt.isName (L[0]?.getD []) = true) : Byt.readLn L E = (5, ln0) := by
 unfold Byt.readLn; rw [if_pos h, if_neg hn]
theorem readLn_twice {L : List (List UInt8)} {E : List Ln} (h : 1 < L.length /\ L[1]?.getD [] = [58]) (hn : Byt.isName (L[0]?.getD []) = true) (hf : Byt.findN E (L[0]?.getD []) < E.length) : Byt.readLn L E = (9, ln0) := by
 unfold Byt.readLn; rw [if_pos h, if_pos hn, if_pos hf]
theorem readLn_yes {L : List (List UInt8)} {E : List Ln} (h : 1 < L.length /\ L[1]?.getD [] = [58]) (hn : Byt.isName (L[0]?.getD []) = true) (hf : ¬ Byt.findN E (L[0]?.getD []) < E.length) : Byt.readLn L E = Byt.readR (L[0]?.getD []) (L.drop 2) := by
 unfold Byt.readLn; rw [if_pos h, if_pos hn, if_neg hf]
theorem a_readLine (b o cap : Nat) (L : List (List UInt8)) (hL : L.length <= 5000) (hcap : L.length <= cap) (p : Option Addr) (cape : Nat) (E : List Ln) (hE : E.length <= 5000) (w : World) (hw : Hid (StrsAt w b o L)) (hb : b < w.heap.size) (hs : Hid (Short L)) (he : Hid (LnsAt w p E)) (hp : Hid (∀ a, p = some a -> a.block < w.heap.size)) :
 CB 182 #[.slice (some ⟨b, o, none⟩) L.length cap, .slice p E.length cape] (.tuple #[lnV (Byt.readLn L E).2, .int .i64 (Byt.readLn L E).1]) w := by
 obtain ⟨T, hT⟩ := zn1 (Byt.readLn L E)
 rw [<- hT]
 have HT := hide1 hT
 clear hT
 obtain ⟨NM, hNM⟩ := zn1 (⟨#[]⟩ : ByteArray)
 go_enter func182, ntmps182
 by_cases h1 : 1 < L.length
 . have h1' : decide (1 < (L.length : Int)) = true := by simp; omega
   have c1 := hw.out 1 h1
   obtain ⟨X1, hX1⟩ := zn1 (⟨(L[1]).toArray⟩ : ByteArray)
   have c1' : w.cell? ⟨b, o + 1, none⟩ = some (.string X1) := by rw [c1, hX1]; rfl
   have g1 : L[1]?.getD [] = X1.data.toList := by rw [hX1, List.getElem?_eq_getElem h1]; rfl
   have q1 : (X1.toList == [58]) = decide (X1.data.toList = [58]) := eq_lit X1 [58]
   clear c1 hX1
   by_cases k1 : X1.data.toList = [58]
   . rw [decide_eq_true k1] at q1
     have c0 := hw.out 0 (by omega)
     obtain ⟨X0, hX0⟩ := zn1 (⟨(L[0]).toArray⟩ : ByteArray)
     have c0' : w.cell? ⟨b, o, none⟩ = some (.string X0) := by rw [<- Nat.add_zero o, c0, hX0]; rfl
     have hm : (L[0]'(by omega)).length <= 5000 := hs.out _ (List.getElem_mem _)
     have s0 : X0.size <= 5000 := by rw [hX0]; exact hm
     have g0 : L[0]?.getD [] = X0.data.toList := by rw [hX0, List.getElem?_eq_getElem (by omega)]; rfl
     have hX0' : X0 = ⟨X0.data.toList.toArray⟩ := (mk_list X0).symm
     have HNM := hide1 hX0'
     clear c0 hX0 hm hX0'
     obtain ⟨o2, cap2, hsl, hc2, hst⟩ := slice_drop b o cap L 2 2 rfl (by omega) hcap
     have HST := hide1 (hst w hw.out)
     have HSD : Hid (Short (L.drop 2)) := fun t ht => hs.out t (List.mem_of_mem_drop ht)
     have hlD : (L.drop 2).length <= 5000 := by rw [List.length_drop]; omega
     have hco : 1 < L.length /\ L[1]?.getD [] = [58] := ⟨h1, by rw [g1]; exact k1⟩
     have HG := hide1 (And.intro hco g0)
     obtain ⟨LD, hLD⟩ := zn1 (L.drop 2)
     have HLD := hide1 hLD
     rw [<- hLD] at HST HSD hlD hsl hc2
     have hcD := hc2
     clear hLD hst hc2 g1 k1 hco g0
     cases kn : Byt.isName X0.data.toList
     . have hT : Hid (T = (5, ln0)) := by
        show T = _
        rw [HT.out]
        exact readLn_word HG.out.1 (by rw [HG.out.2, kn]; decide)
       go_wp2_with fail
       refine (a_isName X0 s0 _).mono ?_
       rintro e w1 ⟨rfl, rfl⟩
       rw [kn]
       clear q1 c1'
       exact zq354
     . have hbw : Below w.heap.size w (w.alloc (lnC ⟨#[]⟩ ins0 ⟨#[]⟩)) := zq134
       have hfn := a_findName p cape E hE X0 _ (hide1 (he.out.below hbw hp.out))
       obtain ⟨F, hF⟩ := zn1 (Byt.findN E X0.data.toList)
       rw [<- hF] at hfn
       have HF := hide1 hF
       have HFN := hide1 hfn
       unfold lnC ins0 at HFN
       clear hfn hF hbw
       by_cases hfe : F < E.length
       . have hT : Hid (T = (9, ln0)) := by
          show T = _
          rw [HT.out]
          exact readLn_twice HG.out.1 (by rw [HG.out.2, kn]) (by rw [HG.out.2, <- HF.out]; exact hfe)
         have hfe' : decide ((F : Int) < (E.length : Int)) = true := by simp; omega
         go_wp2_with fail
         refine (a_isName X0 s0 _).mono ?_
         rintro e w1 ⟨rfl, rfl⟩
         rw [kn]
         clear q1 c1'
         go_wp2_with fail
         refine HFN.out.mono ?_
         rintro e w1 ⟨rfl, rfl⟩
         go_wp2
         refine bodyPost_ret (v := .tuple #[lnA ⟨#[]⟩ ins0 ⟨#[]⟩, .int .i64 9]) zq531 rfl ⟨by rw [hT.out] <;> rfl, ?_⟩
         exact zq355
       . have HR : Hid (T = Byt.readR X0.data.toList LD) := by
          show T = _
          rw [HT.out, HLD.out, <- HG.out.2]
          exact readLn_yes HG.out.1 (by rw [HG.out.2, kn]) (by rw [HG.out.2, <- HF.out]; exact hfe)
         have hfe' : decide ((F : Int) < (E.length : Int)) = false := by simp; omega
         go_wp2_with fail
         refine (a_isName X0 s0 _).mono ?_
         rintro e w1 ⟨rfl, rfl⟩
         rw [kn]
         clear q1 c1'
         go_upto_region 7 with fail
         go_wp2_with fail
         refine HFN.out.mono ?_
         rintro e w1 ⟨rfl, rfl⟩
         clear HFN HF kn HG HLD HT c0' s0
         go_upto_region 9 with fail
         clear hfe hfe' h1 h1' hsl
         cases LD with
         | nil =>
          have hT : Hid (T = (0, ⟨X0.data.toList, ins0, []⟩)) := HR
          clear HR
          go_wp2
          refine bodyPost_ret (v := .tuple #[lnA X0 ins0 ⟨#[]⟩, .int .i64 0]) zq531 rfl ⟨by rw [hT.out] <;> simp only [lnV] <;> (first | rfl | rw [<- HNM.out]), ?_⟩
          repeat (first | with_reducible exact Below.refl _ _ | with_reducible exact HB1.out | (with_reducible refine Below.setCell ?_ (by simp) _) | (with_reducible refine Below.alloc ?_ (by simp) _))
         | cons t LT =>
          have c0 := HST.out 0 (by simp)
          obtain ⟨X, hX⟩ := zn1 (⟨t.toArray⟩ : ByteArray)
          have d0 : w.cell? ⟨b, o2, none⟩ = some (.string X) := by rw [<- Nat.add_zero o2, c0, hX]; rfl
          have hXt : X.data.toList = t := by rw [hX]
          have hrw := a_readWord X
          obtain ⟨o3, cap3, hsl3, hc3, hst3⟩ := slice_drop b o2 cap2 (t :: LT) 1 1 rfl (by simp) hcD
          have hst3' := hst3 w HST.out
          simp only [List.drop_succ_cons, List.drop_zero] at hsl3 hc3 hst3'
          rw [hXt] at hrw
          obtain ⟨V, hV⟩ := zn1 (Byt.wrd t)
          have hV72 : V.1 <= 72 := by rw [hV]; exact wrd_le t
          rw [<- hV] at hrw
          obtain ⟨op, sz⟩ := V
          have HRW := hide1 hrw
          have HV := hide1 hV
          have HST3 := hide1 hst3'
          simp only [List.length_cons] at hlD hcD hsl3
          have hne : ((LT.length : Int) + 1 == 0) = false := by simp; omega
          have hne2 : (LT.length + 1 == 0) = false := by simp
          clear c0 hst3 hst3' hrw hV hX hXt HST
          by_cases hz : sz = 0
          . exact zq356
          . have hz' : ((sz : Int) == 0) = false := by simp; omega
            have hz2 : (sz == 0) = false := by simp; omega
            have hT3 : ∀ O, O = Byt.opsP (Byt.shp op) false ⟨op, 0, 0, 0, 0, sz⟩ [] LT -> (O = none -> T = (6, ln0)) /\ (∀ i g, O = some (i, g) -> T = (0, ⟨X0.data.toList, i, g⟩)) := by
             intro O hO
             have e1 : (Byt.wrd t).1 = op := by rw [<- HV.out]
             have e2 : (Byt.wrd t).2 = sz := by rw [<- HV.out]
             refine ⟨fun h => ?_, fun i g h => ?_⟩
             . exact zq357
             . exact zq358
            obtain ⟨S, hS⟩ := zn1 (Nm.shape op)
            have hs8 := (shape_ok op hV72).1
            have hsl := (shape_ok op hV72).2
            rw [<- hS] at hs8
            have hbw : Below w.heap.size w (w.alloc (lnC ⟨#[]⟩ ins0 ⟨#[]⟩)) := zq134
            have hcall := a_readOperands X0 ⟨op, 0, 0, 0, 0, sz⟩ [] S (hide1 hS.symm) hs8 (by rw [hS]; exact hide1 hsl) b o3 cap3 LT (by omega) _ (StrsAt.more HST3 hb hbw) (Nat.lt_of_lt_of_le hb hbw.size) (hide1 (fun t ht => HSD.out t (List.mem_cons_of_mem _ ht)))
            obtain ⟨O, hO⟩ := zn1 (Byt.opsP (S.data.toList.map UInt8.toNat) false ⟨op, 0, 0, 0, 0, sz⟩ [] LT)
            rw [<- hO, lnO_parts] at hcall
            have hTO := hT3 O (by rw [hO, hS]; rfl)
            have hnz := (Bx.new w ⟨#[]⟩ ins0 ⟨#[]⟩)
            have HCALL := hide1 (hcall.mono fun e w1 h => (⟨h.1, hide1 (hbw.trans (h.2.mono hbw.size)), hide1 (hnz.more h.2 hnz.lt)⟩ : _ /\ Hid (Below w.heap.size w w1) /\ Hid (Bx w1 w.heap.size ⟨#[]⟩ ins0 ⟨#[]⟩)))
            have HTO := hide1 hTO
            unfold lnA lnC ins0 at HCALL
            clear hT3 hs8 hsl hbw hcall hnz hTO hS hO HR HST3 HSD HV hw hs he hp
            go_wp2_with fail
            refine (HRW.out _).mono ?_
            rintro e w1 ⟨rfl, rfl⟩
            go_wp2_with fail
            refine HCALL.out.mono ?_
            rintro e w1 ⟨rfl, HB1, hz0⟩
            clear HCALL HRW
            have HBS : Hid (w.heap.size < w1.heap.size) := hz0.out.lt
            have y0 := hz0.out.c0
            have y1 := hz0.out.c1
            have y2 := hz0.out.c2
            have y3 := hz0.out.c3
            have y4 := hz0.out.c4
            have y5 := hz0.out.c5
            have y6 := hz0.out.c6
            have y7 := hz0.out.c7
            have yf := hz0.out.fro
            have yl := hz0.out.lt
            cases O with
            | none =>
             have hT := hide1 (HTO.out.1 rfl)
             clear HTO
             go_wp2
             refine bodyPost_ret (v := .tuple #[lnA ⟨#[]⟩ ins0 ⟨#[]⟩, .int .i64 6]) zq532 rfl ⟨by rw [hT.out] <;> rfl, ?_⟩
             repeat (first | with_reducible exact Below.refl _ _ | with_reducible exact HB1.out | (with_reducible refine Below.setCell ?_ (by simp) _) | (with_reducible refine Below.alloc ?_ zq533 _))
            | some r =>
             obtain ⟨i1, g1⟩ := r
             have hT := hide1 (HTO.out.2 i1 g1 rfl)
             clear HTO
             obtain ⟨G1, hG1⟩ := zn1 (oG (some (i1, g1)))
             have HG1 : Hid (G1 = ⟨g1.toArray⟩) := hG1
             have e1 : oN X0 (some (i1, g1)) = X0 := rfl
             have e2 : oI (some (i1, g1)) = i1 := rfl
             rw [<- hG1, e1, e2]
             clear hG1 e1 e2
             go_wp2
             refine bodyPost_ret (v := .tuple #[lnA X0 i1 G1, .int .i64 0]) zq532 rfl ⟨by rw [hT.out]; simp only [lnV]; rw [<- HG1.out] <;> (first | rfl | rw [<- HNM.out]), ?_⟩
             repeat (first | with_reducible exact Below.refl _ _ | with_reducible exact HB1.out | (with_reducible refine Below.setCell ?_ (by simp) _) | (with_reducible refine Below.alloc ?_ zq533 _))
   . rw [decide_eq_false k1] at q1
     have HR : Hid (T = Byt.readR [] L) := by
      show T = _
      rw [HT.out]
      exact readLn_not (fun h => k1 (by rw [<- g1]; exact h.2))
     have HST := hw
     have hcD := hcap
     have hlD := hL
     have HSD := hs
     have HNM := hide1 hNM
     go_upto_region 9 with fail
     clear q1 c1' k1 g1 h1 h1' hL hcap hNM HT
     exact zq359
 . have h1' : decide (1 < (L.length : Int)) = false := by simp; omega
   have HR : Hid (T = Byt.readR [] L) := by
    show T = _
    rw [HT.out]
    exact readLn_not (fun h => h1 h.1)
   have HST := hw
   have hcD := hcap
   have hlD := hL
   have HSD := hs
   have HNM := hide1 hNM
   go_upto_region 9 with fail
   clear h1 h1' hL hcap hNM HT
   exact zq359
end Go.Proofs.YtmlgonbhoknoiaaGreatDoor
