import Derived.Test.YthfofjkfbhahoaaGreatDoorXU
import Derived.Test.YthfofjkfbhahoaaGreatDoorXT
section
namespace Go.Proofs.YthfofjkfbhahoaaGreatDoor
open Go.RowKit
set_option linter.unusedSimpArgs false
def longOk (n : Nat) : Bool := (longQ n).all Pic.known && Pic.apart (longQ n) && (Pic.cnt (· == 83) (longQ n) == 0 || Pic.cnt (· == 66) (longQ n) == 0)
theorem longs_ok : ((List.range 71).all fun n => n == 0 || longOk n) = true := by decide +kernel
theorem long_more (n : Nat) (h1 : 1 ≤ n) (h2 : n ≤ 70) : (longQ n).all Pic.known = true ∧ Pic.apart (longQ n) = true ∧ (Pic.cnt (· == 83) (longQ n) = 0 ∨ Pic.cnt (· == 66) (longQ n) = 0) := by
  have h := List.all_eq_true.1 longs_ok n (by simp; omega)
  rw [Bool.or_eq_true, beq_iff_eq] at h
  rcases h with h | h
  · omega
  · simp only [longOk, Bool.and_eq_true, beq_iff_eq, Bool.or_eq_true] at h
    exact ⟨h.1.1, h.1.2, h.2⟩
theorem long_chk (n : Nat) (h1 : 1 ≤ n) (h2 : n ≤ 70) : chk (Tab.longRow n) (TabR.word n) 32 = true := by
  have h := List.all_eq_true.1 chkW n (by simp; omega)
  rw [Bool.or_eq_true, beq_iff_eq] at h
  rcases h with h | h
  · omega
  · exact h
theorem long_read (n v : Nat) (h1 : 1 ≤ n) (h2 : n ≤ 70) (hv : v < 4294967296) (hf : rowFits (Tab.longRow n) v = true) : rowDraw (Tab.longRow n) (rowIns (Tab.longRow n) v) = v := by
  obtain ⟨f4, f5, f7⟩ := long_more n h1 h2
  obtain ⟨_, _, f3⟩ := long_facts n h1 h2
  have hfit := rowFits_fits hf
  have hc := long_chk n h1 h2
  have hp : (2 : Nat) ^ 32 = 4294967296 := by decide
  have hrow := (row_eq hc v (by rw [hp]; exact hv)).1
  simp only [chk, Bool.and_eq_true, beq_iff_eq, decide_eq_true_eq] at hc
  have e := hc.1.1.1.1.1.1.1.1.1.1.2
  have es : (TabR.word n).pic = (Tab.longRow n).2.1 := by
    generalize (TabR.word n).pic = a at *
    generalize (Tab.longRow n).2.1 = b at *
    obtain ⟨a⟩ := a
    obtain ⟨b⟩ := b
    simp only at e
    congr 1
    exact (Array.toList_inj.1 e).symm
  unfold rowDraw
  have hq : Pic.rv (Tab.longRow n).2.1.data.toList (Tab.longRow n).2.1.size = longQ n := rfl
  rw [hq] at hfit ⊢
  have hlen : (longQ n).length = 32 := by unfold longQ; rw [Pic.rv_length _ _ (by simp), f3]
  refine Pic.draw_read (longQ n) v _ _ _ _ f4 (by rw [hlen, hp]; exact hv) hfit ?_ ?_ ?_ ?_
  · rw [hrow]
    have := regR_mod (fun x => x == 68 || x == 66) (Tab.longRow n).2.1 v (TabR.word n).rd
    rw [hq] at this
    unfold insR
    simp only
    rw [es]
    exact this
  · rw [hrow]
    unfold insR
    simp only
    rw [es]
    have h83 := regR_mod (fun x => x == 83 || x == 66) (Tab.longRow n).2.1 v (TabR.word n).rs1
    rw [hq] at h83
    rcases f7 with f7 | f7
    · rw [f7, val_zero 83 _ _ f7]; simp [Int.emod_one]
    · obtain ⟨a, b⟩ := val_or 83 66 (longQ n) v f7
      rw [a, b] at h83
      exact h83
  · rw [hrow]
    unfold insR
    simp only
    rw [es]
    have := regR_mod (fun x => x == 84) (Tab.longRow n).2.1 v 0
    rw [hq] at this
    exact this
  · intro k hk hl
    have := Pic.imm_bit (longQ n) (hasB (Tab.longRow n).2.2 1) v k hk f5 hl
    exact this
/-- what a word means: a row's reading, or nothing -/
theorem decode_ways (x : Int) : (decodeD x = (ins0, 2) ∧ sizeOf x = 0) ∨ ∃ W : Nat, x = W ∧ W < 4294967296 ∧
    ((sizeOf x = 4 ∧ (decodeD x = (⟨0, 0, 0, 0, 0, 4⟩, 0) ∨ ∃ n : Nat, 1 ≤ n ∧ n ≤ 70 ∧ rowFits (Tab.longRow n) W = true ∧ decodeD x = (rowIns (Tab.longRow n) W, 0))) ∨
     (sizeOf x = 2 ∧ W < 65536 ∧ ¬ W % 4 = 3 ∧ (decodeD x = (⟨0, 0, 0, 0, 0, 2⟩, 0) ∨ ∃ n : Nat, 1 ≤ n ∧ n ≤ 26 ∧ rowFits (Tab.shortRow n) W = true ∧ decodeD x = (rowIns (Tab.shortRow n) W, 0)))) := by
  rcases size_ways x with h | ⟨h, h0, h1⟩
  · left
    exact ⟨by unfold decodeD; rw [if_pos h], h⟩
  · right
    obtain ⟨W, rfl⟩ := Int.eq_ofNat_of_zero_le h0
    refine ⟨W, rfl, by omega, ?_⟩
    rcases h with h | h
    · left
      refine ⟨h, ?_⟩
      unfold decodeD
      rw [h, if_neg (by decide), Int.toNat_natCast]
      cases hs : scan (rowMeans 4 W) 1 (rowCount 4).toNat with
      | none => left; rfl
      | some j =>
        right
        obtain ⟨k, k1, k2, k3⟩ := scan_some _ _ hs
        have hc : (rowCount 4).toNat = 70 := rfl
        rw [hc] at k2
        unfold rowMeans at k3
        split at k3
        · next hf => exact ⟨k, k1, by omega, hf, by rw [← Option.some.inj k3]; rfl⟩
        · cases k3
    · right
      have hw : W ≤ 65535 ∧ ¬ W % 4 = 3 := by
        unfold sizeOf at h
        split at h
        · cases h
        · split at h
          · cases h
          · split at h
            · omega
            · cases h
      refine ⟨h, by omega, hw.2, ?_⟩
      unfold decodeD
      rw [h, if_neg (by decide), Int.toNat_natCast]
      cases hs : scan (rowMeans 2 W) 1 (rowCount 2).toNat with
      | none => left; rfl
      | some j =>
        right
        obtain ⟨k, k1, k2, k3⟩ := scan_some _ _ hs
        have hc : (rowCount 2).toNat = 26 := rfl
        rw [hc] at k2
        unfold rowMeans at k3
        split at k3
        · next hf => exact ⟨k, k1, by omega, hf, by rw [← Option.some.inj k3]; rfl⟩
        · cases k3
theorem enc_long (n W : Nat) (h1 : 1 ≤ n) (h2 : n ≤ 70) (hW : W < 4294967296) (hf : rowFits (Tab.longRow n) W = true) : encodeD (rowIns (Tab.longRow n) W) = ((W : Int), 0) := by
  have hd := long_read n W h1 h2 hW hf
  obtain ⟨i, hi⟩ : ∃ i, i = rowIns (Tab.longRow n) W := ⟨_, rfl⟩
  obtain ⟨f1, _, f3⟩ := long_facts n h1 h2
  have hop : i.op = n := by rw [hi]; exact f1
  have hln : i.ln = 4 := by rw [hi]; show ((Tab.longRow n).2.1.size : Int) / 8 = 4; rw [f3]; rfl
  rw [← hi] at hd ⊢
  have e : ∀ k, rowAt i.ln k = Tab.longRow k := by intro k; rw [hln]; rfl
  unfold encodeD
  rw [hln, show (rowCount 4).toNat = 70 from rfl, least_one (k0 := n) 70 1 h1 (by omega)]
  · have : rowWord i n = some W := by
      unfold rowWord
      rw [e n, hd, if_pos ⟨by rw [f1, hop], hf, (same_iff _ _).2 hi.symm⟩]
    rw [this]
  · intro k k1 k2 k3
    unfold rowWord
    rw [if_neg]
    intro h
    rw [e k, (long_facts k k1 (by omega)).1] at h
    omega
theorem enc_short (n W : Nat) (h1 : 1 ≤ n) (h2 : n ≤ 26) (hW : W < 65536) (h3 : ¬ W % 4 = 3) (hf : rowFits (Tab.shortRow n) W = true) : ∃ v : Nat, encodeD (rowIns (Tab.shortRow n) W) = ((v : Int), 0) ∧ v ≤ W ∧ decodeD v = (rowIns (Tab.shortRow n) W, 0) := by
  obtain ⟨i, hi⟩ : ∃ i, i = rowIns (Tab.shortRow n) W := ⟨_, rfl⟩
  obtain ⟨f1, f2, f3, _⟩ := short_facts n h1 h2
  have hop : 1 ≤ i.op := by rw [hi]; exact f1
  have hln : i.ln = 2 := by rw [hi]; show ((Tab.shortRow n).2.1.size : Int) / 8 = 2; rw [f3]; rfl
  have hdec := short_decode h1 h2 hW hf
  rw [← hi] at hdec ⊢
  obtain ⟨k, k1, k2, k3⟩ := wordsB hln W hW ⟨h3, (same_iff _ _).2 hdec.2⟩ hop
  obtain ⟨l1, l2⟩ := least_spec (i := i) 26 1 none
  cases hL : least i none 1 26 with
  | none => rw [(l2 hL).2 k k1 (by omega)] at k3; cases k3
  | some b =>
    obtain ⟨p1, _, p3⟩ := l1 b hL
    have hb : b < 65536 ∧ (b % 4 ≠ 3 ∧ sameB (decodeR b).1 i = true) := by
      rcases p1 with h | ⟨k, k1, k2, k3⟩
      · cases h
      · have := wordsA hln k b k1 (by omega) k3; exact ⟨this.1, this.2.1⟩
    refine ⟨b, ?_, p3 k W k1 (by omega) k3, ?_⟩
    · unfold encodeD
      rw [hln, show (rowCount 2).toNat = 26 from rfl, hL]
    · have e1 : (decodeD b).1 = i := by rw [decode_eq]; exact (same_iff _ _).1 hb.2.2
      have e2 : (decodeD b).2 = 0 := by
        unfold decodeD
        have hsz : sizeOf (b : Int) = 2 := by unfold sizeOf; rw [if_neg (by omega), if_neg (by omega), if_pos (by omega)]
        rw [hsz, if_neg (by decide)]
        split <;> rfl
      rw [← e1, ← e2]
def bnd (c : UInt8) (q : List UInt8) : Nat := if Pic.cnt (· == c) q = 0 then 0 else if Pic.cnt (· == c) q = 3 then 15 else 2 ^ Pic.cnt (· == c) q - 1
theorem reg_bnd (s : ByteArray) (c : UInt8) (W : Nat) : regOf s c W ≤ bnd c (Pic.rv s.data.toList s.size) := by
  have h := Pic.val_lt (· == c) (Pic.rv s.data.toList s.size) W
  unfold regOf bnd
  simp only
  split
  · next h3 => rw [if_neg (by omega)]; rw [h3] at h; omega
  · next h3 =>
    split
    · next h0 => rw [h0] at h; omega
    · omega
def rowTame (t : Int × ByteArray × Int) : Bool :=
  let q := Pic.rv t.2.1.data.toList t.2.1.size
  let sh := (Nm.shape t.1).data.toList.map UInt8.toNat
  decide (1 ≤ t.1) && decide (t.1 ≤ 70) && decide (0 ≤ toldRd t.2.2) && decide ((bnd 68 q : Int) + bnd 66 q + toldRd t.2.2 ≤ 31) && decide (0 ≤ toldRs1 t.2.2) && decide ((bnd 83 q : Int) + bnd 66 q + toldRs1 t.2.2 ≤ 31) && decide (bnd 84 q ≤ 31) && decide (Pic.most q < 4294967296) && decide (Pic.high q < 4294967296) &&
  (sh.contains 100 || decide ((bnd 68 q : Int) + bnd 66 q + toldRd t.2.2 = 0)) && (sh.contains 115 || sh.contains 109 || sh.contains 117 || decide ((bnd 83 q : Int) + bnd 66 q + toldRs1 t.2.2 = 0)) && (sh.contains 116 || decide (bnd 84 q = 0)) && (sh.contains 105 || sh.contains 106 || sh.contains 109 || (decide (Pic.most q = 0) && decide (Pic.high q = 0)))
theorem longs_tame : ((List.range 71).all fun n => n == 0 || rowTame (Tab.longRow n)) = true := by decide +kernel
theorem shorts_tame : ((List.range 27).all fun n => n == 0 || rowTame (Tab.shortRow n)) = true := by decide +kernel
theorem imm_tame (s : ByteArray) (neg : Bool) (W : Nat) (h1 : Pic.most (Pic.rv s.data.toList s.size) < 4294967296) (h2 : Pic.high (Pic.rv s.data.toList s.size) < 4294967296) : -10000000000 < immOf s neg W ∧ immOf s neg W < 10000000000 := by
  have a := Pic.sum_le_most (Pic.rv s.data.toList s.size) W
  unfold immOf
  rw [Pic.imm_of]
  split <;> omega
theorem imm_zero (s : ByteArray) (neg : Bool) (W : Nat) (h1 : Pic.most (Pic.rv s.data.toList s.size) = 0) (h2 : Pic.high (Pic.rv s.data.toList s.size) = 0) : immOf s neg W = 0 := by
  have a := Pic.sum_le_most (Pic.rv s.data.toList s.size) W
  unfold immOf
  rw [Pic.imm_of, h2]
  split <;> omega
/-- what a decoded instruction has -/
structure Real (i : Ins) (o : Nat) : Prop where
  op : i.op = o
  o1 : 1 ≤ o
  o70 : o ≤ 70
  tame : Tame i
  rd : 100 ∈ Byt.shp o ∨ i.rd = 0
  rs1 : 115 ∈ Byt.shp o ∨ 109 ∈ Byt.shp o ∨ 117 ∈ Byt.shp o ∨ i.rs1 = 0
  rs2 : 116 ∈ Byt.shp o ∨ i.rs2 = 0
  im : 105 ∈ Byt.shp o ∨ 106 ∈ Byt.shp o ∨ 109 ∈ Byt.shp o ∨ i.im = 0
theorem row_real (t : Int × ByteArray × Int) (h : rowTame t = true) (W : Nat) : ∃ o, Real (rowIns t W) o := by
  obtain ⟨a, s, r⟩ := t
  have b68 := reg_bnd s 68 W
  have b66 := reg_bnd s 66 W
  have b83 := reg_bnd s 83 W
  have b84 := reg_bnd s 84 W
  simp only [rowTame, Bool.and_eq_true, Bool.or_eq_true, decide_eq_true_eq, List.contains_iff_mem] at h
  obtain ⟨⟨⟨⟨⟨⟨⟨⟨⟨⟨⟨⟨h1, h2⟩, h3⟩, h4⟩, h5⟩, h6⟩, h7⟩, h8⟩, h9⟩, h10⟩, h11⟩, h12⟩, h13⟩ := h
  have him := imm_tame s (hasB r 1) W h8 h9
  obtain ⟨o, rfl⟩ := Int.eq_ofNat_of_zero_le (show 0 ≤ a by omega)
  refine ⟨o, rfl, by omega, by omega, ⟨?_, ?_, ?_, ?_, ?_, ?_, him.1, him.2⟩, ?_, ?_, ?_, ?_⟩
  · show (0 : Int) ≤ regOf s 68 W + regOf s 66 W + toldRd r; omega
  · show (regOf s 68 W : Int) + regOf s 66 W + toldRd r < 32; omega
  · show (0 : Int) ≤ regOf s 83 W + regOf s 66 W + toldRs1 r; omega
  · show (regOf s 83 W : Int) + regOf s 66 W + toldRs1 r < 32; omega
  · show (0 : Int) ≤ regOf s 84 W; omega
  · show (regOf s 84 W : Int) < 32; omega
  · rcases h10 with h | h
    · exact .inl h
    · exact .inr (by show (regOf s 68 W : Int) + regOf s 66 W + toldRd r = 0; omega)
  · rcases h11 with ((h | h) | h) | h
    · exact .inl h
    · exact .inr (.inl h)
    · exact .inr (.inr (.inl h))
    · exact .inr (.inr (.inr (by show (regOf s 83 W : Int) + regOf s 66 W + toldRs1 r = 0; omega)))
  · rcases h12 with h | h
    · exact .inl h
    · exact .inr (by show (regOf s 84 W : Int) = 0; omega)
  · rcases h13 with ((h | h) | h) | h
    · exact .inl h
    · exact .inr (.inl h)
    · exact .inr (.inr (.inl h))
    · exact .inr (.inr (.inr (imm_zero s (hasB r 1) W h.1 h.2)))
theorem long_real (n W : Nat) (h1 : 1 ≤ n) (h2 : n ≤ 70) : ∃ o, Real (rowIns (Tab.longRow n) W) o := by
  have h := List.all_eq_true.1 longs_tame n (by simp; omega)
  rw [Bool.or_eq_true, beq_iff_eq] at h
  rcases h with h | h
  · omega
  · exact row_real _ h W
theorem short_real (n W : Nat) (h1 : 1 ≤ n) (h2 : n ≤ 26) : ∃ o, Real (rowIns (Tab.shortRow n) W) o := by
  have h := List.all_eq_true.1 shorts_tame n (by simp; omega)
  rw [Bool.or_eq_true, beq_iff_eq] at h
  rcases h with h | h
  · omega
  · exact row_real _ h W
theorem fill_fold (i : Ins) : ∀ (cs : List Nat) (j : Ins), (∀ c ∈ cs, c ∈ Byt.lets) → (cs.foldl (fun j c => Byt.fill j i c) j).op = j.op ∧ (cs.foldl (fun j c => Byt.fill j i c) j).ln = j.ln ∧
    (cs.foldl (fun j c => Byt.fill j i c) j).rd = (if 100 ∈ cs then i.rd else j.rd) ∧ (cs.foldl (fun j c => Byt.fill j i c) j).rs1 = (if 115 ∈ cs ∨ 109 ∈ cs ∨ 117 ∈ cs then i.rs1 else j.rs1) ∧
    (cs.foldl (fun j c => Byt.fill j i c) j).rs2 = (if 116 ∈ cs then i.rs2 else j.rs2) ∧ (cs.foldl (fun j c => Byt.fill j i c) j).im = (if 105 ∈ cs ∨ 106 ∈ cs ∨ 109 ∈ cs then i.im else j.im)
  | [], j, _ => by simp
  | c :: cs, j, h => by
    obtain ⟨h1, h2, h3, h4, h5, h6⟩ := fill_fold i cs (Byt.fill j i c) (fun d hd => h d (by simp [hd]))
    have hc := h c (by simp)
    simp only [List.foldl_cons]
    rw [h1, h2, h3, h4, h5, h6]
    simp only [Byt.lets, List.mem_cons, List.not_mem_nil, or_false] at hc
    rcases hc with rfl | rfl | rfl | rfl | rfl | rfl | rfl <;> simp [Byt.fill] <;> intros <;> (try simp_all)
theorem fill_all (i : Ins) (cs : List Nat) (o : Nat) (hc : ∀ c ∈ cs, c ∈ Byt.lets) (op : i.op = o) (rd : 100 ∈ cs ∨ i.rd = 0) (rs1 : 115 ∈ cs ∨ 109 ∈ cs ∨ 117 ∈ cs ∨ i.rs1 = 0) (rs2 : 116 ∈ cs ∨ i.rs2 = 0) (im : 105 ∈ cs ∨ 106 ∈ cs ∨ 109 ∈ cs ∨ i.im = 0) (n : Nat) (hn : i.ln = n) :
    cs.foldl (fun j c => Byt.fill j i c) ⟨o, 0, 0, 0, 0, n⟩ = i := by
  obtain ⟨h1, h2, h3, h4, h5, h6⟩ := fill_fold i cs ⟨o, 0, 0, 0, 0, n⟩ hc
  generalize cs.foldl (fun j c => Byt.fill j i c) ⟨o, 0, 0, 0, 0, n⟩ = r at *
  obtain ⟨a1, a2, a3, a4, a5, a6⟩ := r
  obtain ⟨b1, b2, b3, b4, b5, b6⟩ := i
  simp only at *
  have e2 : a2 = b2 := by rw [h3]; split <;> simp_all
  have e3 : a3 = b3 := by
    rw [h4]; split
    · rfl
    · next h => rcases rs1 with r | r | r | r
                · exact absurd (Or.inl r) h
                · exact absurd (Or.inr (Or.inl r)) h
                · exact absurd (Or.inr (Or.inr r)) h
                · exact r.symm
  have e4 : a4 = b4 := by rw [h5]; split <;> simp_all
  have e5 : a5 = b5 := by
    rw [h6]; split
    · rfl
    · next h => rcases im with r | r | r | r
                · exact absurd (Or.inl r) h
                · exact absurd (Or.inr (Or.inl r)) h
                · exact absurd (Or.inr (Or.inr r)) h
                · exact r.symm
  rw [h1, h2, e2, e3, e4, e5, op, hn]
end Go.Proofs.YthfofjkfbhahoaaGreatDoor
end
section
namespace Go.Proofs.YthfofjkfbhahoaaGreatDoor
open Go.RowKit
set_option linter.unusedSimpArgs false
theorem names_ok : ((List.range 73).all fun n => n == 0 || (decide (Byt.wrd (Byt.nmL n) = (n, if n = 72 then 2 else 4)) && (Byt.nmL n).all Byt.inn && !(Byt.nmL n).isEmpty)) = true := by decide +kernel
theorem cnames_ok : ((List.range 71).all fun n => n == 0 || decide (Byt.wrd (99 :: 46 :: Byt.nmL n) = (n, 2))) = true := by decide +kernel
theorem name_ok (n : Nat) (h1 : 1 ≤ n) (h2 : n ≤ 72) : Byt.wrd (Byt.nmL n) = (n, if n = 72 then 2 else 4) ∧ (∀ c ∈ Byt.nmL n, Byt.inn c = true) ∧ Byt.nmL n ≠ [] ∧ (Byt.nmL n).length ≤ 20 := by
  have h := List.all_eq_true.1 names_ok n (by simp; omega)
  rw [Bool.or_eq_true, beq_iff_eq] at h
  rcases h with h | h
  · omega
  · simp only [Bool.and_eq_true, decide_eq_true_eq, List.all_eq_true, Bool.not_eq_true', List.isEmpty_eq_false_iff] at h
    refine ⟨h.1.1, h.1.2, h.2, ?_⟩
    have := nm_sz n h2; unfold Byt.nmL; rw [Array.length_toList]; exact this
theorem cname_ok (n : Nat) (h1 : 1 ≤ n) (h2 : n ≤ 70) : Byt.wrd (99 :: 46 :: Byt.nmL n) = (n, 2) := by
  have h := List.all_eq_true.1 cnames_ok n (by simp; omega)
  rw [Bool.or_eq_true, beq_iff_eq, decide_eq_true_eq] at h
  rcases h with h | h
  · omega
  · exact h
theorem shp_lets (o : Nat) (h : o ≤ 72) : (∀ c ∈ Byt.shp o, c ∈ Byt.lets) ∧ (Byt.shp o).length ≤ 8 := by
  have hs := shape_ok o h
  constructor
  · intro c hc
    unfold Byt.shp at hc
    rw [List.mem_map] at hc
    obtain ⟨b, hb, rfl⟩ := hc
    obtain ⟨k, hk, rfl⟩ := List.getElem_of_mem hb
    have hk' : k < (Nm.shape o).size := by rw [Array.length_toList] at hk; exact hk
    have := hs.2 k hk'
    have e : (Nm.shape o)[k] = (Nm.shape o).data.toList[k] := rfl
    rw [e] at this
    simp only [Byt.lets, List.mem_cons, List.not_mem_nil, or_false]
    omega
  · unfold Byt.shp; rw [List.length_map, Array.length_toList]; exact hs.1
theorem segs_one : ∀ (l pre : List UInt8), (∀ c ∈ l, ¬ c.toNat = 10) → Byt.segs pre l = [pre ++ l]
  | [], pre, _ => by simp [Byt.segs]
  | c :: l, pre, h => by
    simp only [Byt.segs]
    rw [if_neg (h c (by simp)), segs_one l (pre ++ [c]) (fun d hd => h d (by simp [hd]))]
    simp
theorem nls_none : ∀ (l : List UInt8), (∀ c ∈ l, ¬ c.toNat = 10) → Byt.nls l = 0
  | [], _ => rfl
  | c :: l, h => by
    simp only [Byt.nls]
    rw [if_neg (h c (by simp)), nls_none l (fun d hd => h d (by simp [hd]))]
theorem inn10 (c : UInt8) (h : Byt.inn c = true) : ¬ c.toNat = 10 := by
  intro e; unfold Byt.inn Byt.nmc Byt.letr Byt.dig at h; rw [e] at h; simp at h
theorem opT_no10 (c : Nat) (i : Ins) : ∀ b ∈ Byt.opT c i, ¬ b.toNat = 10 := by
  have hr : ∀ n, ∀ b ∈ Byt.regName n, ¬ b.toNat = 10 := fun n b hb => inn10 b (reg_inn n b hb)
  have hn : ∀ v, ∀ b ∈ Lib.itoa v, ¬ b.toNat = 10 := fun v b hb => inn10 b (itoa_inn v b hb)
  unfold Byt.opT
  split
  · exact hr _
  · split
    · exact hr _
    · split
      · exact hr _
      · split
        · exact hn _
        · split
          · intro b hb
            simp only [List.mem_append, List.mem_cons, List.not_mem_nil, or_false] at hb
            rcases hb with hb | rfl | hb | rfl
            · exact hn _ b hb
            · decide
            · exact hr _ b hb
            · decide
          · exact hn _
theorem sep_no10 : ∀ (cs : List Nat) (m : Bool) (i : Ins), ∀ b ∈ Byt.sepT cs m i, ¬ b.toNat = 10
  | [], m, i, b, hb => by simp [Byt.sepT] at hb
  | c :: cs, m, i, b, hb => by
    simp only [Byt.sepT, List.mem_append] at hb
    rcases hb with hb | hb | hb
    · cases m
      · simp only [Bool.false_eq_true, if_false, List.mem_cons, List.not_mem_nil, or_false] at hb; rw [hb]; decide
      · simp only [if_true, List.mem_cons, List.not_mem_nil, or_false] at hb
        rcases hb with rfl | rfl <;> decide
    · exact opT_no10 c i b hb
    · exact sep_no10 cs true i b hb
theorem sep_len (i : Ins) (hi : Tame i) : ∀ (cs : List Nat) (m : Bool), (Byt.sepT cs m i).length ≤ 52 * cs.length
  | [], m => by simp [Byt.sepT]
  | c :: cs, m => by
    have h1 := opT_len c i hi
    have h2 := sep_len i hi cs true
    simp only [Byt.sepT, List.length_append, List.length_cons]
    cases m <;> simp <;> omega
theorem opK_head (c : Nat) (i : Ins) : ∃ t r, Byt.opK c i = t :: r ∧ t ≠ [58] := by
  have hr : ∀ n, Byt.regName n ≠ [58] := fun n h => by
    have := reg_inn n 58 (by rw [h]; simp)
    exact absurd this (by decide)
  have hn : ∀ v, Lib.itoa v ≠ [58] := fun v h => by
    have := itoa_inn v 58 (by rw [h]; simp)
    exact absurd this (by decide)
  unfold Byt.opK
  split
  · exact ⟨_, _, rfl, hr _⟩
  · split
    · exact ⟨_, _, rfl, hr _⟩
    · split
      · exact ⟨_, _, rfl, hr _⟩
      · split
        · exact ⟨_, _, rfl, hn _⟩
        · split
          · exact ⟨_, _, rfl, hn _⟩
          · exact ⟨_, _, rfl, hn _⟩
theorem sepK_head (nm : List UInt8) (cs : List Nat) (i : Ins) : ¬ (1 < (nm :: Byt.sepK cs false i).length ∧ (nm :: Byt.sepK cs false i)[1]?.getD [] = [58]) := by
  rintro ⟨_, h⟩
  cases cs with
  | nil => simp [Byt.sepK] at h
  | cons c cs =>
    obtain ⟨t, r, e, ht⟩ := opK_head c i
    simp only [Byt.sepK, Bool.false_eq_true, if_false, List.nil_append, e, List.cons_append, List.getElem?_cons_succ, List.getElem?_cons_zero, Option.getD_some] at h
    exact ht h
/-- a line that names a word and shows an instruction's operands means that instruction -/
theorem asm_line (nm : List UInt8) (o n : Nat) (i : Ins) (hw : Byt.wrd nm = (o, n)) (hn : n ≠ 0) (ho : o ≤ 72) (hne : nm ≠ []) (hin : ∀ c ∈ nm, Byt.inn c = true) (hlen : nm.length ≤ 22) (ht : Tame i) (hln : i.ln = n)
    (hfill : (Byt.shp o).foldl (fun j c => Byt.fill j i c) ⟨o, 0, 0, 0, 0, n⟩ = i) (v : Int) (hv : Byt.wordD i = (v, 0)) : Byt.asmD (nm ++ Byt.sepT (Byt.shp o) false i) = (Byt.leB v n, 0, 0) := by
  obtain ⟨hl, hl8⟩ := shp_lets o ho
  have h10 : ∀ b ∈ nm ++ Byt.sepT (Byt.shp o) false i, ¬ b.toNat = 10 := by
    intro b hb
    rcases List.mem_append.1 hb with hb | hb
    · exact inn10 b (hin b hb)
    · exact sep_no10 _ _ _ b hb
  have hsl := sep_len i ht (Byt.shp o) false
  have htl : (nm ++ Byt.sepT (Byt.shp o) false i).length ≤ 1000 := by rw [List.length_append]; omega
  have hread : Byt.readLn (Byt.tok (nm ++ Byt.sepT (Byt.shp o) false i).length (nm ++ Byt.sepT (Byt.shp o) false i)) [] = (0, ⟨[], i, []⟩) := by
    rw [tok_line nm hne hin (Byt.shp o) i _ (Nat.le_refl _), readLn_not (sepK_head nm _ i)]
    refine readR_yes [] nm _ (by rw [hw]; exact hn) ?_
    rw [hw]
    have := ops_print (Byt.shp o) false i ⟨o, 0, 0, 0, 0, n⟩ [] ht hl
    rw [hfill] at this
    exact this
  have hall : Byt.readAll [] (Byt.segs [] (nm ++ Byt.sepT (Byt.shp o) false i)) = ([⟨[], i, []⟩], 0, 0) := by
    rw [segs_one _ [] h10, List.nil_append]
    simp only [Byt.readAll]
    rw [hread]; rfl
  unfold Byt.asmD
  rw [if_neg (by omega), nls_none _ h10, if_neg (by decide), hall]
  simp only [if_true]
  simp only [Byt.lay]
  rw [if_neg (by simp)]
  have ha : Byt.aimed [⟨[], i, []⟩] ⟨[], i, []⟩ ([] : List UInt8).length = i := by unfold Byt.aimed; rw [if_pos rfl]
  rw [ha, hv]
  simp only [if_true, List.nil_append]
  rw [hln, Int.toNat_natCast]
theorem tame_im (o im n : Int) (h0 : -10000000000 < im) (h1 : im < 10000000000) : Tame ⟨o, 0, 0, 0, im, n⟩ := ⟨Int.le_refl 0, (show (0 : Int) < 32 by decide), Int.le_refl 0, (show (0 : Int) < 32 by decide), Int.le_refl 0, (show (0 : Int) < 32 by decide), h0, h1⟩
/-- P5 and P6: a word's text is assembled into it -/
theorem text_back (x : Int) (h : (decodeD x).2 = 0) : ∃ n : Nat, (n = 2 ∨ n = 4) ∧ sizeOf x = n ∧ (Byt.textD x).2 = 0 ∧ Byt.asmD (Byt.textD x).1 = (Byt.leB x n, 0, 0) := by
  have hdata : ∀ (W n : Nat), (n = 4 ∧ W < 4294967296) ∨ (n = 2 ∧ W < 65536) → Byt.asmD (Byt.nmL (if (n : Int) = 2 then 72 else 71) ++ 32 :: Lib.itoa W) = (Byt.leB W n, 0, 0) := by
    intro W n hWn
    rcases hWn with ⟨rfl, hW⟩ | ⟨rfl, hW⟩
    · rw [if_neg (by decide)]
      obtain ⟨a1, a2, a3, a4⟩ := name_ok 71 (by decide) (by decide)
      have hs : Byt.shp 71 = [105] := by decide +kernel
      have := asm_line (Byt.nmL 71) 71 4 ⟨71, 0, 0, 0, W, 4⟩ a1 (by decide) (by decide) a3 a2 (by omega) (tame_im _ _ _ (by omega) (by omega)) rfl (by rw [hs]; rfl) W (by
        unfold Byt.wordD Byt.dataD
        rw [if_neg (show ¬ (4 : Int) = 0 by decide), if_pos (show (71 : Int) = 71 from rfl), if_neg (by show ¬ ((W : Int) < -2147483648 ∨ 4294967295 < (W : Int)); omega)])
      rw [hs] at this
      simpa [Byt.sepT, Byt.opT] using this
    · rw [if_pos (show ((2 : Nat) : Int) = 2 from rfl)]
      obtain ⟨a1, a2, a3, a4⟩ := name_ok 72 (by decide) (by decide)
      have hs : Byt.shp 72 = [105] := by decide +kernel
      have := asm_line (Byt.nmL 72) 72 2 ⟨72, 0, 0, 0, W, 2⟩ a1 (by decide) (by decide) a3 a2 (by omega) (tame_im _ _ _ (by omega) (by omega)) rfl (by rw [hs]; rfl) W (by
        unfold Byt.wordD Byt.dataD
        rw [if_neg (show ¬ (2 : Int) = 0 by decide), if_neg (show ¬ (72 : Int) = 71 by decide), if_pos (show (72 : Int) = 72 from rfl), if_neg (by show ¬ ((W : Int) < -32768 ∨ 65535 < (W : Int)); omega)])
      rw [hs] at this
      simpa [Byt.sepT, Byt.opT] using this
  have hins : ∀ (i : Ins) (o n : Nat) (x : Int), Real i o → i.ln = n → (n = 2 ∨ n = 4) → encodeD i = (x, 0) → Byt.asmD (Byt.insT i) = (Byt.leB x n, 0, 0) := by
    intro i o n x hr hln hn2 henc
    obtain ⟨a1, a2, a3, a4⟩ := name_ok o hr.o1 (by have := hr.o70; omega)
    have ho := hr.o70
    have ho1 := hr.o1
    obtain ⟨hl, hl8⟩ := shp_lets o (by omega)
    have hfill := fill_all i (Byt.shp o) o hl hr.op hr.rd hr.rs1 hr.rs2 hr.im n hln
    have hword : Byt.wordD i = (x, 0) := by
      unfold Byt.wordD
      have := hr.op
      rw [if_neg (by omega), if_neg (by omega), if_neg (by omega), henc]; rfl
    unfold Byt.insT
    have hot : i.op.toNat = o := by have := hr.op; omega
    rw [hot]
    rcases hn2 with rfl | rfl
    · rw [if_pos (by rw [hln]; rfl)]
      refine asm_line (99 :: 46 :: Byt.nmL o) o 2 i (cname_ok o ho1 ho) (by decide) (by omega) (by simp) ?_ (by simp only [List.length_cons]; omega) hr.tame hln hfill x hword
      intro c hc
      rcases List.mem_cons.1 hc with rfl | hc
      · decide
      · rcases List.mem_cons.1 hc with rfl | hc
        · decide
        · exact a2 c hc
    · rw [if_neg (by rw [hln]; decide)]
      rw [if_neg (by omega)] at a1
      exact asm_line (Byt.nmL o) o 4 i a1 (by decide) (by omega) a3 a2 (by omega) hr.tame hln hfill x hword
  have hlnL : ∀ (n W : Nat), 1 ≤ n → n ≤ 70 → (rowIns (Tab.longRow n) W).ln = 4 := by
    intro n W h1 h2
    show ((Tab.longRow n).2.1.size : Int) / 8 = 4
    rw [(long_facts n h1 h2).2.2]; rfl
  have hlnS : ∀ (n W : Nat), 1 ≤ n → n ≤ 26 → (rowIns (Tab.shortRow n) W).ln = 2 := by
    intro n W h1 h2
    obtain ⟨_, _, f3, _⟩ := short_facts n h1 h2
    show ((Tab.shortRow n).2.1.size : Int) / 8 = 2
    rw [f3]; rfl
  have hgo : ∀ (i : Ins) (n W : Nat), decodeD x = (i, 0) → x = W → i.ln = n → ((n = 4 ∧ W < 4294967296) ∨ (n = 2 ∧ W < 65536)) → (encodeD i = (x, 0) → ∃ o, Real i o) → (Byt.textD x).2 = 0 ∧ Byt.asmD (Byt.textD x).1 = (Byt.leB x n, 0, 0) := by
    intro i n W hd hx hln hn hr
    unfold Byt.textD
    rw [hd]
    simp only [if_true]
    by_cases he : (encodeD i).2 = 0 ∧ (encodeD i).1 = x
    · rw [if_pos he]
      have henc : encodeD i = (x, 0) := Prod.ext he.2 he.1
      obtain ⟨o, ho⟩ := hr henc
      exact ⟨rfl, hins i o n x ho hln (by omega) henc⟩
    · rw [if_neg he, hln, hx]
      exact ⟨rfl, hdata W n hn⟩
  have hbadE : ∀ (m : Int) (y : Int), encodeD ⟨0, 0, 0, 0, 0, m⟩ ≠ (y, 0) := by
    intro m y
    rw [encode_eq]
    unfold encodeR
    rw [if_pos (Or.inl (show (0 : Int) < 1 by decide))]
    intro h
    exact absurd (show (3 : Int) = 0 from congrArg Prod.snd h) (by decide)
  rcases decode_ways x with ⟨hd, _⟩ | ⟨W, hx, hW, hc⟩
  · rw [hd] at h; cases h
  · rcases hc with ⟨hz, hc⟩ | ⟨hz, hW2, h3, hc⟩
    · refine ⟨4, .inr rfl, hz, ?_⟩
      rcases hc with hd | ⟨n, n1, n2, hf, hd⟩
      · exact hgo _ 4 W hd hx rfl (.inl ⟨rfl, hW⟩) (fun e => absurd e (hbadE _ _))
      · exact hgo _ 4 W hd hx (hlnL n W n1 n2) (.inl ⟨rfl, hW⟩) (fun _ => long_real n W n1 n2)
    · refine ⟨2, .inl rfl, hz, ?_⟩
      rcases hc with hd | ⟨n, n1, n2, hf, hd⟩
      · exact hgo _ 2 W hd hx rfl (.inr ⟨rfl, hW2⟩) (fun e => absurd e (hbadE _ _))
      · exact hgo _ 2 W hd hx (hlnS n W n1 n2) (.inr ⟨rfl, hW2⟩) (fun _ => short_real n W n1 n2)
theorem tame0 (n : Int) : Tame ⟨0, 0, 0, 0, 0, n⟩ := tame_im 0 0 n (by decide) (by decide)
theorem decode_tame (x : Int) : (decodeD x).2 = 0 → Tame (decodeD x).1 ∧ 0 ≤ (decodeD x).1.op ∧ (decodeD x).1.op ≤ 70 ∧ 0 ≤ x ∧ x ≤ 4294967295 := by
  intro h
  rcases decode_ways x with ⟨hd, _⟩ | ⟨W, hx, hW, hc⟩
  · rw [hd] at h; cases h
  · have hr : ∀ i o, Real i o → Tame i ∧ 0 ≤ i.op ∧ i.op ≤ 70 := fun i o hr => ⟨hr.tame, by have := hr.op; omega, by have := hr.op; have := hr.o70; omega⟩
    rcases hc with ⟨hz, hc⟩ | ⟨hz, hW2, h3, hc⟩
    · rcases hc with hd | ⟨n, n1, n2, hf, hd⟩
      · rw [hd]; exact ⟨tame0 _, by decide, by decide, by omega, by omega⟩
      · obtain ⟨o, ho⟩ := long_real n W n1 n2
        rw [hd]; obtain ⟨p1, p2, p3⟩ := hr _ o ho
        exact ⟨p1, p2, p3, by omega, by omega⟩
    · rcases hc with hd | ⟨n, n1, n2, hf, hd⟩
      · rw [hd]; exact ⟨tame0 _, by decide, by decide, by omega, by omega⟩
      · obtain ⟨o, ho⟩ := short_real n W n1 n2
        rw [hd]; obtain ⟨p1, p2, p3⟩ := hr _ o ho
        exact ⟨p1, p2, p3, by omega, by omega⟩
theorem a_Text' (x : Int) (w : World) (ht : Hid (Tb w)) :
    Calls Tryz.prog 72 #[.int .i64 x] w fun e w' => e = .returned (.tuple #[Byt.strV (Byt.textD x).1, .int .i64 (Byt.textD x).2]) ∧ Below w.heap.size w w' := a_Text x (decode_tame x) w ht
end Go.Proofs.YthfofjkfbhahoaaGreatDoor
end
