import Derived.Test.YthfofjkfbhahoaaGreatDoorXK
section
namespace Go.Proofs.YthfofjkfbhahoaaGreatDoor
open Go.RowKit
set_option linter.unusedSimpArgs false
def meansW (W n : Nat) : Option Ins := if readR (TabR.word n) W = true then some (insR (TabR.word n) W) else none
def meansH (W n : Nat) : Option Ins := if readR (TabR.half n) W = true then some (insR (TabR.half n) W) else none
def decodeR (x : Int) : Ins × Int :=
  if x < 0 ∨ 4294967295 < x then (ins0, 2) else
  if x % 4 = 3 then ((scan (meansW x.toNat) 1 70).getD ⟨0, 0, 0, 0, 0, 4⟩, 0) else
  if 65535 < x then (ins0, 2) else ((scan (meansH x.toNat) 1 26).getD ⟨0, 0, 0, 0, 0, 2⟩, 0)
def rowOk (t : TabR.Row) : Bool := decide (t.pic.size ≤ 32) && t.pic.data.toList.all (fun x => decide (x.toNat ≤ 122)) && decide (t.no.size ≤ 32)
theorem word_ok : ((List.range 71).all fun n => rowOk (TabR.word n)) = true := by decide +kernel
theorem half_ok : ((List.range 27).all fun n => rowOk (TabR.half n)) = true := by decide +kernel
theorem rowOk_parts {t : TabR.Row} (h : rowOk t = true) : t.pic.size ≤ 32 ∧ (∀ x ∈ t.pic.data.toList, x.toNat ≤ 122) ∧ t.no.size ≤ 32 := by
  simp only [rowOk, Bool.and_eq_true, decide_eq_true_eq, List.all_eq_true] at h
  exact ⟨h.1.1, h.1.2, h.2⟩
theorem scW_hit {W n : Nat} {m T : Option Ins} (hf : readR (TabR.word n) W = true) (h : Hid ((match meansW W n with | some i => some i | none => m) = T)) : T = some (insR (TabR.word n) W) := by
  rw [← h.out, meansW, if_pos hf]
theorem scW_miss {W n : Nat} {m T : Option Ins} (hf : readR (TabR.word n) W = false) (h : Hid ((match meansW W n with | some i => some i | none => m) = T)) : Hid (m = T) := by
  show m = T
  rw [← h.out, meansW, if_neg (by rw [hf]; decide)]
theorem scH_hit {W n : Nat} {m T : Option Ins} (hf : readR (TabR.half n) W = true) (h : Hid ((match meansH W n with | some i => some i | none => m) = T)) : T = some (insR (TabR.half n) W) := by
  rw [← h.out, meansH, if_pos hf]
theorem scH_miss {W n : Nat} {m T : Option Ins} (hf : readR (TabR.half n) W = false) (h : Hid ((match meansH W n with | some i => some i | none => m) = T)) : Hid (m = T) := by
  show m = T
  rw [← h.out, meansH, if_neg (by rw [hf]; decide)]
set_option maxHeartbeats 400000 in
theorem r_Decode_no (x : Int) (h : x < 0 ∨ 4294967295 < x ∨ (0 ≤ x ∧ x ≤ 4294967295 ∧ Hid (¬ x % 4 = 3) ∧ 65535 < x)) (w : World) :
    Calls Tryz.prog 69 #[.int .i64 x] w fun e w' => e = .returned (.tuple #[insV ins0, .int .i64 2]) ∧ Below w.heap.size w w' := by
  unfold insV ins0
  rcases h with h | h | ⟨h0, h1, h2, h3⟩
  · go_enter Tryz.func69, Tryz.ntmps69
    go_wp2
    exact bodyPost_ret (v := .tuple #[.agg #[.int .i64 0, .int .i64 0, .int .i64 0, .int .i64 0, .int .i64 0, .int .i64 0], .int .i64 2]) (by simp [results, Tryz.results69, go_sem]) rfl ⟨rfl, (Below.refl _ _).alloc (Nat.le_refl _) _⟩
  · have h' : ¬ x < 0 := by omega
    go_enter Tryz.func69, Tryz.ntmps69
    go_wp2
    exact bodyPost_ret (v := .tuple #[.agg #[.int .i64 0, .int .i64 0, .int .i64 0, .int .i64 0, .int .i64 0, .int .i64 0], .int .i64 2]) (by simp [results, Tryz.results69, go_sem]) rfl ⟨rfl, (Below.refl _ _).alloc (Nat.le_refl _) _⟩
  · have h4 : (x % 4 == 3) = false := by rw [beq_eq_false_iff_ne]; exact h2.out
    go_enter Tryz.func69, Tryz.ntmps69
    go_wp2
    exact bodyPost_ret (v := .tuple #[.agg #[.int .i64 0, .int .i64 0, .int .i64 0, .int .i64 0, .int .i64 0, .int .i64 0], .int .i64 2]) (by simp [results, Tryz.results69, go_sem]) rfl ⟨rfl, (Below.refl _ _).alloc (Nat.le_refl _) _⟩
set_option maxHeartbeats 2000000 in
theorem r_Decode_W (W : Nat) (hc : Hid (W % 4 = 3)) (hW : W < 4294967296) (w : World) :
    Calls Tryz.prog 69 #[.int .i64 W] w fun e w' => (∃ i, e = .returned (.tuple #[insV i, .int .i64 0]) ∧ Hid (i = (scan (meansW W) 1 70).getD ⟨0, 0, 0, 0, 0, 4⟩)) ∧ Below w.heap.size w w' := by
  have h4 : ((W : Int) % 4 == 3) = true := by have := hc.out; rw [beq_iff_eq]; omega
  go_enter Tryz.func69, Tryz.ntmps69
  go_wp2_with fail
  go_loopw [4] (fun k wr => ∃ n : Nat, 1 ≤ n ∧ n ≤ 71 ∧ k = .int .i64 n ∧ Zed w wr ∧ Hid (scan (meansW W) n (71 - n) = scan (meansW W) 1 70)) (fun k _ => 71 - (intOf k).toNat)
  case atStart => exact ⟨1, by omega, by omega, rfl, Zed.start _ _, rfl⟩
  case round =>
    obtain ⟨n, hn1, hn2, rfl, hz, hsc⟩ := hrel
    by_cases hnC : n ≤ 70
    · obtain ⟨ok1, ok2, ok3⟩ := rowOk_parts (List.all_eq_true.1 word_ok n (by simp; omega))
      have OK2 := hide ok2
      clear ok2
      have hstep := scan_step (meansW W) n (70 - n)
      rw [show 70 - n + 1 = 71 - n by omega] at hstep
      rw [hstep] at hsc
      clear hstep
      go_wp2_with fail
      refine (r_word n (by omega) (by omega) _).mono ?_
      rintro e w1 ⟨rfl, hb1⟩
      replace hz := hz.more hb1
      clear hb1
      simp only [rowR]
      go_wp2_with fail
      refine (r_read (TabR.word n) ok1 OK2.out ok3 W (by omega) _).mono ?_
      rintro e w2 ⟨rfl, hb2⟩
      replace hz := (hz.alloc _).more hb2
      clear hb2
      have z0 := hz.c0
      have z1 := hz.c1
      have z2 := hz.c2
      have z3 := hz.c3
      have z4 := hz.c4
      have z5 := hz.c5
      have zf := hz.fro
      have hlt := hz.lt
      cases hf : readR (TabR.word n) W
      · have hm := scW_miss hf hsc
        clear hsc
        simp only [insV, ins0]
        go_wp2
        go_roundw
        case rel => exact ⟨n + 1, by omega, by omega, by go_num, hz.alloc _, by rw [show 71 - (n + 1) = 70 - n by omega]; exact hm⟩
        case measure => simp [intOf]; omega
      · have hm := hide (scW_hit hf hsc)
        clear hsc
        obtain ⟨i, hi⟩ : ∃ i, i = insR (TabR.word n) W := ⟨_, rfl⟩
        have HI := hide hi
        simp only [if_true]
        rw [← hi]
        clear hi
        simp only [insV]
        go_wp2
        refine bodyPost_ret (v := .tuple #[.agg #[.int .i64 i.op, .int .i64 i.rd, .int .i64 i.rs1, .int .i64 i.rs2, .int .i64 i.im, .int .i64 i.ln], .int .i64 0]) (by simp [results, Tryz.results69, go_sem, z0, z1, z2, z3, z4, z5, hlt]) rfl ⟨⟨i, rfl, ?_⟩, ?_⟩
        · show i = _
          rw [hm.out, HI.out]; rfl
        · exact (below6 hz.below _ (Nat.le_refl _) _ _ _ _ _ _).alloc (by simp; omega) _
    · have h0 : 71 - n = 0 := by omega
      rw [h0] at hsc
      have z0 := hz.c0
      have z1 := hz.c1
      have z2 := hz.c2
      have z3 := hz.c3
      have z4 := hz.c4
      have z5 := hz.c5
      have zf := hz.fro
      have hlt := hz.lt
      go_wp2
      refine bodyPost_ret (v := .tuple #[.agg #[.int .i64 0, .int .i64 0, .int .i64 0, .int .i64 0, .int .i64 0, .int .i64 4], .int .i64 0]) (by simp [results, Tryz.results69, go_sem, z0, z1, z2, z3, z4, z5]) rfl ⟨⟨⟨0, 0, 0, 0, 0, 4⟩, rfl, ?_⟩, ?_⟩
      · rw [← hsc.out]; rfl
      · exact below6 hz.below _ (Nat.le_refl _) _ _ _ _ _ _
set_option maxHeartbeats 2000000 in
theorem r_Decode_H (W : Nat) (hc : Hid (¬ W % 4 = 3)) (hW : W ≤ 65535) (w : World) :
    Calls Tryz.prog 69 #[.int .i64 W] w fun e w' => (∃ i, e = .returned (.tuple #[insV i, .int .i64 0]) ∧ Hid (i = (scan (meansH W) 1 26).getD ⟨0, 0, 0, 0, 0, 2⟩)) ∧ Below w.heap.size w w' := by
  have h4 : ((W : Int) % 4 == 3) = false := by have := hc.out; rw [beq_eq_false_iff_ne]; omega
  go_enter Tryz.func69, Tryz.ntmps69
  go_wp2_with fail
  go_loopw [8] (fun k wr => ∃ n : Nat, 1 ≤ n ∧ n ≤ 27 ∧ k = .int .i64 n ∧ Zed w wr ∧ Hid (scan (meansH W) n (27 - n) = scan (meansH W) 1 26)) (fun k _ => 27 - (intOf k).toNat)
  case atStart => exact ⟨1, by omega, by omega, rfl, Zed.start _ _, rfl⟩
  case round =>
    obtain ⟨n, hn1, hn2, rfl, hz, hsc⟩ := hrel
    by_cases hnC : n ≤ 26
    · obtain ⟨ok1, ok2, ok3⟩ := rowOk_parts (List.all_eq_true.1 half_ok n (by simp; omega))
      have OK2 := hide ok2
      clear ok2
      have hstep := scan_step (meansH W) n (26 - n)
      rw [show 26 - n + 1 = 27 - n by omega] at hstep
      rw [hstep] at hsc
      clear hstep
      go_wp2_with fail
      refine (r_half n (by omega) (by omega) _).mono ?_
      rintro e w1 ⟨rfl, hb1⟩
      replace hz := hz.more hb1
      clear hb1
      simp only [rowR]
      go_wp2_with fail
      refine (r_read (TabR.half n) ok1 OK2.out ok3 W (by omega) _).mono ?_
      rintro e w2 ⟨rfl, hb2⟩
      replace hz := (hz.alloc _).more hb2
      clear hb2
      have z0 := hz.c0
      have z1 := hz.c1
      have z2 := hz.c2
      have z3 := hz.c3
      have z4 := hz.c4
      have z5 := hz.c5
      have zf := hz.fro
      have hlt := hz.lt
      cases hf : readR (TabR.half n) W
      · have hm := scH_miss hf hsc
        clear hsc
        simp only [insV, ins0]
        go_wp2
        go_roundw
        case rel => exact ⟨n + 1, by omega, by omega, by go_num, hz.alloc _, by rw [show 27 - (n + 1) = 26 - n by omega]; exact hm⟩
        case measure => simp [intOf]; omega
      · have hm := hide (scH_hit hf hsc)
        clear hsc
        obtain ⟨i, hi⟩ : ∃ i, i = insR (TabR.half n) W := ⟨_, rfl⟩
        have HI := hide hi
        simp only [if_true]
        rw [← hi]
        clear hi
        simp only [insV]
        go_wp2
        refine bodyPost_ret (v := .tuple #[.agg #[.int .i64 i.op, .int .i64 i.rd, .int .i64 i.rs1, .int .i64 i.rs2, .int .i64 i.im, .int .i64 i.ln], .int .i64 0]) (by simp [results, Tryz.results69, go_sem, z0, z1, z2, z3, z4, z5, hlt]) rfl ⟨⟨i, rfl, ?_⟩, ?_⟩
        · show i = _
          rw [hm.out, HI.out]; rfl
        · exact (below6 hz.below _ (Nat.le_refl _) _ _ _ _ _ _).alloc (by simp; omega) _
    · have h0 : 27 - n = 0 := by omega
      rw [h0] at hsc
      have z0 := hz.c0
      have z1 := hz.c1
      have z2 := hz.c2
      have z3 := hz.c3
      have z4 := hz.c4
      have z5 := hz.c5
      have zf := hz.fro
      have hlt := hz.lt
      go_wp2
      refine bodyPost_ret (v := .tuple #[.agg #[.int .i64 0, .int .i64 0, .int .i64 0, .int .i64 0, .int .i64 0, .int .i64 2], .int .i64 0]) (by simp [results, Tryz.results69, go_sem, z0, z1, z2, z3, z4, z5]) rfl ⟨⟨⟨0, 0, 0, 0, 0, 2⟩, rfl, ?_⟩, ?_⟩
      · rw [← hsc.out]; rfl
      · exact below6 hz.below _ (Nat.le_refl _) _ _ _ _ _ _
theorem r_Decode (x : Int) (w : World) :
    Calls Tryz.prog 69 #[.int .i64 x] w fun e w' => e = .returned (.tuple #[insV (decodeR x).1, .int .i64 (decodeR x).2]) ∧ Below w.heap.size w w' := by
  by_cases h1 : x < 0 ∨ 4294967295 < x
  · have e : decodeR x = (ins0, 2) := by unfold decodeR; rw [if_pos h1]
    rw [e]
    exact r_Decode_no x (by rcases h1 with h | h; exact .inl h; exact .inr (.inl h)) w
  obtain ⟨W, rfl⟩ := Int.eq_ofNat_of_zero_le (show 0 ≤ x by omega)
  by_cases h2 : (W : Int) % 4 = 3
  · refine (r_Decode_W W (show W % 4 = 3 by omega) (by omega) w).mono ?_
    rintro e w' ⟨⟨i, rfl, hi⟩, hb⟩
    have hD : decodeR (W : Int) = (i, 0) := by unfold decodeR; rw [if_neg h1, if_pos h2, Int.toNat_natCast, ← hi.out]
    rw [hD]
    exact ⟨rfl, hb⟩
  by_cases h3 : 65535 < (W : Int)
  · have e : decodeR (W : Int) = (ins0, 2) := by unfold decodeR; rw [if_neg h1, if_neg h2, if_pos h3]
    rw [e]
    exact r_Decode_no W (.inr (.inr ⟨by omega, by omega, h2, h3⟩)) w
  · refine (r_Decode_H W (show ¬ W % 4 = 3 by omega) (by omega) w).mono ?_
    rintro e w' ⟨⟨i, rfl, hi⟩, hb⟩
    have hD : decodeR (W : Int) = (i, 0) := by unfold decodeR; rw [if_neg h1, if_neg h2, if_neg h3, Int.toNat_natCast, ← hi.out]
    rw [hD]
    exact ⟨rfl, hb⟩
end Go.Proofs.YthfofjkfbhahoaaGreatDoor
end
section
namespace Go.Proofs.YthfofjkfbhahoaaGreatDoor
open Go.RowKit
set_option linter.unusedSimpArgs false
theorem val_zero (c : UInt8) : ∀ (q : List UInt8) (w : Nat), Pic.cnt (· == c) q = 0 → Pic.val (· == c) q w = 0
  | [], _, _ => rfl
  | x :: q, w, h => by
    cases hx : (x == c)
    · simp only [Pic.cnt, hx, cond_false] at h; simp only [Pic.val, hx, cond_false]; exact val_zero c q _ h
    · simp only [Pic.cnt, hx, cond_true] at h; omega
theorem val_or (c d : UInt8) : ∀ (q : List UInt8) (w : Nat), Pic.cnt (· == d) q = 0 → Pic.val (fun x => x == c || x == d) q w = Pic.val (· == c) q w ∧ Pic.cnt (fun x => x == c || x == d) q = Pic.cnt (· == c) q
  | [], _, _ => ⟨rfl, rfl⟩
  | x :: q, w, h => by
    cases hx : (x == d)
    · simp only [Pic.cnt, hx, cond_false] at h
      obtain ⟨h1, h2⟩ := val_or c d q (w / 2) h
      cases hc : (x == c)
      · simp only [Pic.val, Pic.cnt, hx, hc, Bool.or_false, cond_false]; exact ⟨h1, h2⟩
      · simp only [Pic.val, Pic.cnt, hx, hc, Bool.or_false, cond_true]; rw [h1, h2]; exact ⟨rfl, rfl⟩
    · simp only [Pic.cnt, hx, cond_true] at h; omega
theorem or_swap (c d : UInt8) (q : List UInt8) (w : Nat) : Pic.val (fun x => x == c || x == d) q w = Pic.val (fun x => x == d || x == c) q w ∧ Pic.cnt (fun x => x == c || x == d) q = Pic.cnt (fun x => x == d || x == c) q := by
  have e : (fun x : UInt8 => x == c || x == d) = (fun x => x == d || x == c) := by funext x; rw [Bool.or_comm]
  rw [e]; exact ⟨rfl, rfl⟩
/-- a register that is drawn, or told -/
def regChk (c : UInt8) (q : List UInt8) (told given : Int) : Bool :=
  (Pic.cnt (· == c) q == 0 || Pic.cnt (· == 66) q == 0) && (if Pic.cnt (fun x => x == c || x == 66) q = 0 then told == given else told == 0)
theorem reg_eq (c : UInt8) (s : ByteArray) (W : Nat) (told given : Int) (h : regChk c (Pic.rv s.data.toList s.size) told given = true) :
    (regOf s c W : Int) + regOf s 66 W + told = regR (fun x => x == c || x == 66) s W given := by
  simp only [regChk, Bool.and_eq_true, Bool.or_eq_true, beq_iff_eq] at h
  obtain ⟨h1, h2⟩ := h
  unfold regOf regR
  simp only
  generalize Pic.rv s.data.toList s.size = q at *
  rcases h1 with h1 | h1
  · have hz := val_zero c q W h1
    obtain ⟨e1, e2⟩ := val_or 66 c q W h1
    obtain ⟨e3, e4⟩ := or_swap c 66 q W
    rw [e4, e2] at h2
    rw [e3, e4, e1, e2, h1, hz]
    by_cases c0 : Pic.cnt (· == 66) q = 0
    · rw [if_pos c0] at h2; rw [beq_iff_eq] at h2
      have := val_zero 66 q W c0
      simp [c0, this, h2]
    · rw [if_neg c0] at h2; rw [beq_iff_eq] at h2
      by_cases c3 : Pic.cnt (· == 66) q = 3 <;> simp [c3, c0, h2]
  · have hz := val_zero 66 q W h1
    obtain ⟨e1, e2⟩ := val_or c 66 q W h1
    rw [e2] at h2
    rw [e1, e2, h1, hz]
    by_cases c0 : Pic.cnt (· == c) q = 0
    · rw [if_pos c0] at h2; rw [beq_iff_eq] at h2
      have := val_zero c q W c0
      simp [c0, this, h2]
    · rw [if_neg c0] at h2; rw [beq_iff_eq] at h2
      by_cases c3 : Pic.cnt (· == c) q = 3 <;> simp [c3, c0, h2]
theorem reg_t (s : ByteArray) (W : Nat) : (regOf s 84 W : Int) = regR (fun x => x == 84) s W 0 := by
  unfold regOf regR
  simp only
  generalize Pic.rv s.data.toList s.size = q at *
  by_cases c0 : Pic.cnt (· == 84) q = 0
  · have := val_zero 84 q W c0
    simp [c0, this]
  · by_cases c3 : Pic.cnt (· == 84) q = 3 <;> simp [c3, c0]
theorem sumR_plain (t : Nat) : ∀ (q : List UInt8) (y : Nat), (∀ x ∈ q, x.toNat ≤ 122) → sumR false t q y = (Pic.sum q y : Int)
  | [], _, _ => rfl
  | x :: q, y, h => by
    have ih := sumR_plain t q (y / 2) (fun z hz => h z (by simp [hz]))
    have hx := h x (by simp)
    simp only [sumR, Pic.sum, ih, Bool.false_eq_true, false_and, if_false]
    by_cases c : 97 ≤ x.toNat
    · have hl : Pic.isLet x = true := by simp [Pic.isLet]; omega
      rw [if_pos c, hl, cond_true]; omega
    · have hl : Pic.isLet x = false := by simp [Pic.isLet]; omega
      rw [if_neg c, hl, cond_false]; omega
theorem sumR_signed (t : UInt8) (ht : Pic.isLet t = true) : ∀ (q : List UInt8) (y : Nat), (∀ x ∈ q, x.toNat ≤ 122) → sumR true t.toNat q y = Pic.sumS t q y
  | [], _, _ => rfl
  | x :: q, y, h => by
    have ih := sumR_signed t ht q (y / 2) (fun z hz => h z (by simp [hz]))
    have hx := h x (by simp)
    have hi : x.toNat = t.toNat ↔ x = t := UInt8.toNat_inj
    simp only [sumR, Pic.sumS, ih, true_and, hi]
    by_cases c : 97 ≤ x.toNat
    · have hl : Pic.isLet x = true := by simp [Pic.isLet]; omega
      rw [if_pos c, if_pos hl]
    · have hl : ¬ Pic.isLet x = true := by simp [Pic.isLet]; omega
      rw [if_neg c, if_neg hl]
def immChk (q : List UInt8) (sg : Bool) : Bool :=
  q.all (fun x => decide (x.toNat ≤ 122)) && Pic.apart q && (!sg || (Pic.isLet (UInt8.ofNat (topN q)) && decide ((UInt8.ofNat (topN q)).toNat = topN q) && decide (Pic.high q = 2 ^ (topN q - 97)) && decide (Pic.mostBut (UInt8.ofNat (topN q)) q < 2 ^ (topN q - 97))))
theorem imm_eq (s : ByteArray) (sg : Bool) (W : Nat) (h : immChk (Pic.rv s.data.toList s.size) sg = true) : immOf s sg W = immR s sg W := by
  unfold immOf immR
  generalize Pic.rv s.data.toList s.size = q at *
  simp only [immChk, Bool.and_eq_true, Bool.or_eq_true, List.all_eq_true, decide_eq_true_eq, Bool.not_eq_true'] at h
  obtain ⟨⟨h1, h2⟩, h3⟩ := h
  cases sg with
  | false => rw [sumR_plain _ _ _ h1, Pic.imm_plain]
  | true =>
    rcases h3 with h3 | ⟨⟨⟨h3, h4⟩, h5⟩, h6⟩
    · cases h3
    · have e := sumR_signed (UInt8.ofNat (topN q)) h3 q W h1
      rw [h4] at e
      rw [e]
      exact Pic.imm_signed q _ W h2 h3 (by rw [h4]; exact h5) (by rw [h4]; exact h6)
theorem any_bar (x : Ins) : ∀ l : List UInt8, l.any (barC x) = ((x.im == 0 && l.contains 105) || (x.rd == 0 && l.contains 100) || (x.rs1 == 0 && l.contains 115) || (x.rs2 == 0 && l.contains 116) || (x.rd == 2 && l.contains 50))
  | [] => by simp
  | c :: l => by
    rw [List.any_cons, any_bar x l]
    simp only [List.contains_cons, barC]
    have e1 : ((105 : UInt8) == c) = (c == 105) := by rw [Bool.eq_iff_iff, beq_iff_eq, beq_iff_eq]; exact ⟨Eq.symm, Eq.symm⟩
    have e2 : ((100 : UInt8) == c) = (c == 100) := by rw [Bool.eq_iff_iff, beq_iff_eq, beq_iff_eq]; exact ⟨Eq.symm, Eq.symm⟩
    have e3 : ((115 : UInt8) == c) = (c == 115) := by rw [Bool.eq_iff_iff, beq_iff_eq, beq_iff_eq]; exact ⟨Eq.symm, Eq.symm⟩
    have e4 : ((116 : UInt8) == c) = (c == 116) := by rw [Bool.eq_iff_iff, beq_iff_eq, beq_iff_eq]; exact ⟨Eq.symm, Eq.symm⟩
    have e5 : ((50 : UInt8) == c) = (c == 50) := by rw [Bool.eq_iff_iff, beq_iff_eq, beq_iff_eq]; exact ⟨Eq.symm, Eq.symm⟩
    rw [e1, e2, e3, e4, e5]
    generalize (c == 105) = a1, (c == 100) = a2, (c == 115) = a3, (c == 116) = a4, (c == 50) = a5, l.contains 105 = b1, l.contains 100 = b2, l.contains 115 = b3, l.contains 116 = b4, l.contains 50 = b5, (x.im == 0) = d1, (x.rd == 0) = d2, (x.rs1 == 0) = d3, (x.rs2 == 0) = d4, (x.rd == 2) = d5
    rw [Bool.and_comm a1, Bool.and_comm a2, Bool.and_comm a3, Bool.and_comm a4, Bool.and_comm a5]
    simp only [Bool.and_or_distrib_left]
    ac_rfl
def chk (t : Int × ByteArray × Int) (T : TabR.Row) (bits : Nat) : Bool :=
  t.1 == T.op && t.2.1.data.toList == T.pic.data.toList && decide (T.pic.size = bits) && (hasB t.2.2 1 == T.sg) &&
  regChk 68 (Pic.rv T.pic.data.toList T.pic.size) (toldRd t.2.2) T.rd && regChk 83 (Pic.rv T.pic.data.toList T.pic.size) (toldRs1 t.2.2) T.rs1 && immChk (Pic.rv T.pic.data.toList T.pic.size) T.sg &&
  (hasB t.2.2 16 == T.no.data.toList.contains 105) && (hasB t.2.2 32 == T.no.data.toList.contains 100) && (hasB t.2.2 64 == T.no.data.toList.contains 115) && (hasB t.2.2 128 == T.no.data.toList.contains 116) && (hasB t.2.2 256 == T.no.data.toList.contains 50)
theorem row_eq {t : Int × ByteArray × Int} {T : TabR.Row} {bits : Nat} (h : chk t T bits = true) (W : Nat) (hW : W < 2 ^ bits) : rowIns t W = insR T W ∧ rowFits t W = readR T W := by
  simp only [chk, Bool.and_eq_true, beq_iff_eq, decide_eq_true_eq] at h
  obtain ⟨⟨⟨⟨⟨⟨⟨⟨⟨⟨⟨h1, h2⟩, h3⟩, h4⟩, h5⟩, h6⟩, h7⟩, h8⟩, h9⟩, h10⟩, h11⟩, h12⟩ := h
  obtain ⟨op, pic, r⟩ := t
  simp only at *
  obtain rfl : pic = T.pic := by
    cases pic; cases hp : T.pic; rw [hp] at h2; simp only at h2; congr 1; exact Array.toList_inj.1 h2
  have hi : rowIns (op, T.pic, r) W = insR T W := by
    unfold rowIns insR
    simp only
    rw [reg_eq 68 _ _ _ _ h5, reg_eq 83 _ _ _ _ h6, reg_t, h4, imm_eq _ _ _ h7, h1]
  refine ⟨hi, ?_⟩
  unfold rowFits readR fitR
  simp only
  rw [hi, any_bar]
  have hd : (W / 2 ^ T.pic.size == 0) = true := by rw [h3, beq_iff_eq]; exact Nat.div_eq_of_lt hW
  rw [hd, Bool.and_true, ← h8, ← h9, ← h10, ← h11, ← h12]
  rfl
theorem chkW : ((List.range 71).all fun n => n == 0 || chk (Tab.longRow n) (TabR.word n) 32) = true := by decide +kernel
theorem chkH : ((List.range 27).all fun n => n == 0 || chk (Tab.shortRow n) (TabR.half n) 16) = true := by decide +kernel
theorem scan_congr (f g : Nat → Option Ins) : ∀ (m n : Nat), (∀ k, n ≤ k → k < n + m → f k = g k) → scan f n m = scan g n m
  | 0, _, _ => rfl
  | m + 1, n, h => by
    rw [scan_step, scan_step, h n (by omega) (by omega), scan_congr f g m (n + 1) (fun k h1 h2 => h k (by omega) (by omega))]
theorem means_W (W n : Nat) (hW : W < 4294967296) (h1 : 1 ≤ n) (h2 : n < 71) : rowMeans 4 W n = meansW W n := by
  have h := List.all_eq_true.1 chkW n (by simpa using h2)
  rw [Bool.or_eq_true] at h
  rcases h with h | h
  · rw [beq_iff_eq] at h; omega
  · obtain ⟨e1, e2⟩ := row_eq h W (by have : (2 : Nat) ^ 32 = 4294967296 := by decide
                                      omega)
    unfold rowMeans meansW
    have e3 : rowAt 4 n = Tab.longRow n := rfl
    rw [e3, e1, e2]
theorem means_H (W n : Nat) (hW : W ≤ 65535) (h1 : 1 ≤ n) (h2 : n < 27) : rowMeans 2 W n = meansH W n := by
  have h := List.all_eq_true.1 chkH n (by simpa using h2)
  rw [Bool.or_eq_true] at h
  rcases h with h | h
  · rw [beq_iff_eq] at h; omega
  · obtain ⟨e1, e2⟩ := row_eq h W (by have : (2 : Nat) ^ 16 = 65536 := by decide
                                      omega)
    unfold rowMeans meansH
    have e3 : rowAt 2 n = Tab.shortRow n := rfl
    rw [e3, e1, e2]
/-- P3: the project's Decode and the document's are one -/
theorem decode_eq (x : Int) : decodeD x = decodeR x := by
  unfold decodeD decodeR sizeOf
  by_cases h1 : x < 0 ∨ 4294967295 < x
  · simp only [if_pos h1, if_true]
  · simp only [if_neg h1]
    by_cases h2 : x % 4 = 3
    · simp only [if_pos h2]
      rw [if_neg (by decide)]
      have hc : (rowCount 4).toNat = 70 := rfl
      rw [hc, scan_congr _ _ 70 1 (fun k a b => means_W x.toNat k (by omega) a (by omega))]
      cases scan (meansW x.toNat) 1 70 <;> rfl
    · simp only [if_neg h2]
      by_cases h3 : x ≤ 65535
      · simp only [if_pos h3, if_neg (show ¬ 65535 < x by omega)]
        rw [if_neg (by decide)]
        have hc : (rowCount 2).toNat = 26 := rfl
        rw [hc, scan_congr _ _ 26 1 (fun k a b => means_H x.toNat k (by omega) a (by omega))]
        cases scan (meansH x.toNat) 1 26 <;> rfl
      · simp only [if_neg h3, if_pos (show 65535 < x by omega), if_true]
end Go.Proofs.YthfofjkfbhahoaaGreatDoor
end
section
namespace Go.Proofs.YthfofjkfbhahoaaGreatDoor
open Go.RowKit
set_option linter.unusedSimpArgs false
set_option maxHeartbeats 400000 in
theorem r_bitw (W : Nat) (hW : W ≤ 9223372036854775807) (y : Int) (h0 : 0 ≤ y) (h1 : y ≤ 255) (w : World) :
    Calls Tryz.prog 161 #[.int .i64 W, .int .i64 y] w fun e w' => (∃ b : Nat, e = .returned (.int .i64 b) ∧ b ≤ 1 ∧ Hid (b = W / 2 ^ y.toNat % 2)) ∧ w' = w := by
  obtain ⟨n, rfl⟩ := Int.eq_ofNat_of_zero_le h0
  rw [Int.toNat_natCast]
  go_enter Tryz.func161, Tryz.ntmps161
  go_wp2
  go_loop [0, 1] (fun v k => ∃ x j : Nat, j ≤ n ∧ x ≤ 9223372036854775807 ∧ v = .int .i64 x ∧ k = .int .i64 j ∧ Hid (x / 2 ^ j = W / 2 ^ n)) (fun _ k => (intOf k).toNat)
  case atStart => exact ⟨W, n, Nat.le_refl _, hW, rfl, rfl, rfl⟩
  case round =>
    obtain ⟨x, j, hj, hx, rfl, rfl, hh⟩ := hrel
    cases j with
    | zero =>
      go_wp2
      go_ret
      refine ⟨⟨x % 2, by go_num, by omega, ?_⟩, rfl⟩
      show x % 2 = _
      have := hh.out
      rw [Nat.pow_zero, Nat.div_one] at this
      rw [this]
    | succ i =>
      have hp : (0 : Int) < ((i + 1 : Nat) : Int) := by omega
      go_wp2
      go_round
      case rel => exact ⟨x / 2, i, by omega, by omega, by go_num, by go_num, (by rw [Nat.div_div_eq_div_mul, ← Nat.pow_succ']; exact hh.out : x / 2 / 2 ^ i = W / 2 ^ n)⟩
      case measure => simp [intOf] <;> omega
theorem bit_int {W b : Nat} {d : Nat} (h : Hid (b = W / 2 ^ d % 2)) : ((W : Int) / 2 ^ d) % 2 = (b : Int) := by
  rw [h.out]; push_cast; rfl
theorem half_int (x : Int) (d : Nat) : x / 2 ^ d / 2 = x / 2 ^ (d + 1) := by
  rw [Int.pow_succ]; exact Int.ediv_ediv_of_nonneg (Int.pow_nonneg (by decide))
theorem imm_shift (im : Int) (h : -1099511627776 ≤ im) (k b : Nat) (hk : k ≤ 39) (hb : Hid (b = (im + 1099511627776).toNat / 2 ^ k % 2)) : im / 2 ^ k % 2 = (b : Int) := by
  have e1 : (((im + 1099511627776).toNat / 2 ^ k % 2 : Nat) : Int) = (im + 1099511627776) / 2 ^ k % 2 := by
    rw [Int.natCast_emod, Int.natCast_ediv, Int.toNat_of_nonneg (by omega)]; push_cast; rfl
  rw [hb.out, e1]
  have e2 : (1099511627776 : Int) = 2 ^ k * (2 * 2 ^ (39 - k)) := by
    have : (2 : Int) ^ k * (2 * 2 ^ (39 - k)) = 2 ^ (k + 1 + (39 - k)) := by rw [Int.pow_add, Int.pow_succ, Int.mul_assoc]
    rw [this, show k + 1 + (39 - k) = 40 by omega]; decide
  rw [e2, Int.add_mul_ediv_left _ _ (by have : (0 : Int) < 2 ^ k := Int.pow_pos (by decide)
                                        omega)]
  omega
set_option maxHeartbeats 4000000 in
theorem r_draw (s : ByteArray) (hs : s.size ≤ 32) (hl : ∀ x ∈ s.data.toList, x.toNat ≤ 122) (op ln : Int) (rd rs1 rs2 : Nat) (bd : rd ≤ 9223372036854775807) (b1 : rs1 ≤ 9223372036854775807) (b2 : rs2 ≤ 9223372036854775807) (im : Int) (i1 : -1099511627776 ≤ im) (i2 : im ≤ 1099511627776) (w : World) :
    Calls Tryz.prog 113 #[.string s, .agg #[.int .i64 op, .int .i64 rd, .int .i64 rs1, .int .i64 rs2, .int .i64 im, .int .i64 ln]] w fun e w' =>
      e = .returned (.int .i64 (Pic.draw (Pic.rv s.data.toList s.size) rd rs1 rs2 im)) ∧ Below w.heap.size w w' := by
  have HL := hide hl
  clear hl
  obtain ⟨T, hT⟩ : ∃ T, T = Pic.draw (Pic.rv s.data.toList s.size) rd rs1 rs2 im := ⟨_, rfl⟩
  have bT : T < 4294967296 := by
    have h := Pic.draw_lt (Pic.rv s.data.toList s.size) rd rs1 rs2 im
    rw [Pic.rv_length _ _ (by simp), ← hT] at h
    have c : 2 ^ s.size ≤ 2 ^ 32 := Nat.pow_le_pow_right (by decide) hs
    have d : (2 : Nat) ^ 32 = 4294967296 := by decide
    omega
  rw [← hT]
  have HT : Hid (T = Pic.draw (Pic.rv s.data.toList s.size) rd rs1 rs2 im) := hT
  clear hT
  go_enter Tryz.func113, Tryz.ntmps113
  go_wp2
  go_loop [5, 6, 7, 8, 9] (fun a d r1 r2 k => ∃ (j acc nd n1 n2 : Nat), j ≤ s.size ∧ k = .int .i64 ((j : Int) - 1) ∧ a = .int .i64 acc ∧ d = .int .i64 nd ∧ r1 = .int .i64 n1 ∧ r2 = .int .i64 n2 ∧ nd + j ≤ s.size ∧ n1 + j ≤ s.size ∧ n2 + j ≤ s.size ∧
    Hid (acc + 2 ^ (s.size - j) * Pic.draw (Pic.rv s.data.toList j) ((rd : Int) / 2 ^ nd) ((rs1 : Int) / 2 ^ n1) ((rs2 : Int) / 2 ^ n2) im = T)) (fun _ _ _ _ k => (intOf k + 1).toNat)
  case atStart => exact ⟨s.size, 0, 0, 0, 0, Nat.le_refl _, rfl, rfl, rfl, rfl, rfl, by omega, by omega, by omega, (by rw [Nat.sub_self]; simp only [Int.pow_zero, Int.ediv_one]; rw [← HT.out]; omega : 0 + 2 ^ (s.size - s.size) * Pic.draw (Pic.rv s.data.toList s.size) ((rd : Int) / 2 ^ 0) ((rs1 : Int) / 2 ^ 0) ((rs2 : Int) / 2 ^ 0) im = T)⟩
  case round =>
    obtain ⟨j, acc, nd, n1, n2, hj, rfl, rfl, rfl, rfl, rfl, l1, l2, l3, hh⟩ := hrel
    have ba : acc < 4294967296 := by have := hh.out; omega
    cases j with
    | zero =>
      have q := hh.out
      simp only [Pic.rv_zero, Pic.draw, Nat.mul_zero, Nat.add_zero] at q
      subst q
      go_wp2
      go_ret
      exact ⟨rfl, (Below.refl _ _).alloc (Nat.le_refl _) _⟩
    | succ i =>
      have e : ((i + 1 : Nat) : Int) - 1 = (i : Int) := by omega
      rw [e]
      clear e
      have hi : i < s.size := by omega
      rw [rv_at s i hi] at hh
      have hxl : s[i].toNat ≤ 122 := HL.out s[i] (by
        have : s[i] = s.data.toList[i]'(by simpa using hi) := rfl
        rw [this]; exact List.getElem_mem _)
      have hp2 : 2 ^ (s.size - (i + 1)) * 2 = 2 ^ (s.size - i) := by rw [← Nat.pow_succ]; congr 1; omega
      have HP2 := hide hp2
      clear hp2
      by_cases c49 : (s[i].toNat : Int) = 49
      · skip
        have hh2 := draw_one c49 hh
        have C49 : ((s[i].toNat : Int) == 49) = true := by rw [c49]; rfl
        have C68 : ((s[i].toNat : Int) == 68) = false := by rw [c49]; rfl
        have C66 : ((s[i].toNat : Int) == 66) = false := by rw [c49]; rfl
        have C83 : ((s[i].toNat : Int) == 83) = false := by rw [c49]; rfl
        have C84 : ((s[i].toNat : Int) == 84) = false := by rw [c49]; rfl
        have CC := hide c49
        clear c49 hh
        have l97 : decide ((97 : Int) ≤ (s[i].toNat : Int)) = false := by rw [CC.out]; rfl
        go_wp2_with fail
        refine (r_power _ (by omega) (by omega) _).mono ?_
        rintro e w' ⟨⟨p, rfl, hp1, hp2, hp3⟩, rfl⟩
        have hy : ((s.size : Int) - 1 - (i : Int)).toNat = s.size - (i + 1) := by omega
        rw [hy] at hp3
        clear hy
        rw [← hp3.out] at hh2
        have b4 : acc + p < 4294967296 := by have := hh2.out; omega
        have hv : Hid (acc + p + 2 ^ (s.size - i) * Pic.draw (Pic.rv s.data.toList i) ((rd : Int) / 2 ^ nd) ((rs1 : Int) / 2 ^ n1) ((rs2 : Int) / 2 ^ n2) im = T) := by rw [← HP2.out, ← hp3.out]; exact hh2
        clear hh2 hp3
        go_wp2
        go_round
        case rel => exact ⟨i, acc + p, nd, n1, n2, by omega, by go_num, by go_num, by go_num, by go_num, by go_num, by omega, by omega, by omega, hv⟩
        case measure => simp [intOf]
      by_cases c68 : (s[i].toNat : Int) = 68
      · skip
        clear c49
        have hcl := (Or.inl c68 : (s[i].toNat : Int) = 68 ∨ (s[i].toNat : Int) = 66)
        have C49 : ((s[i].toNat : Int) == 49) = false := by rw [c68]; rfl
        have C68 : ((s[i].toNat : Int) == 68) = true := by rw [c68]; rfl
        have C66 : ((s[i].toNat : Int) == 66) = false := by rw [c68]; rfl
        have C83 : ((s[i].toNat : Int) == 83) = false := by rw [c68]; rfl
        have C84 : ((s[i].toNat : Int) == 84) = false := by rw [c68]; rfl
        have CC := hide c68
        clear c68
        have l97 : decide ((97 : Int) ≤ (s[i].toNat : Int)) = false := by rw [CC.out]; rfl
        go_wp2_with fail
        refine (r_bitw rd (by omega) _ (by omega) (by omega) _).mono ?_
        rintro e w' ⟨⟨b, rfl, hb1, hb2⟩, rfl⟩
        rw [Int.toNat_natCast] at hb2
        have hh2 := draw_rd hcl (bit_int hb2) hh
        clear hh hb2
        go_wp2_with fail
        refine (r_power _ (by omega) (by omega) _).mono ?_
        rintro e w' ⟨⟨p, rfl, hp1, hp2, hp3⟩, rfl⟩
        have hy : ((s.size : Int) - 1 - (i : Int)).toNat = s.size - (i + 1) := by omega
        rw [hy] at hp3
        clear hy
        rw [← hp3.out, half_int] at hh2
        have b4 : acc + b * p < 4294967296 := by have := hh2.out; omega
        have hv : Hid (acc + b * p + 2 ^ (s.size - i) * Pic.draw (Pic.rv s.data.toList i) ((rd : Int) / 2 ^ (nd + 1)) ((rs1 : Int) / 2 ^ n1) ((rs2 : Int) / 2 ^ n2) im = T) := by rw [← HP2.out, ← hp3.out]; exact hh2
        clear hh2 hp3 hcl
        rcases (show b = 0 ∨ b = 1 by omega) with rfl | rfl
        · rw [Nat.zero_mul, Nat.add_zero] at hv
          go_wp2
          go_round
          case rel => exact ⟨i, acc, nd + 1, n1, n2, by omega, by go_num, by go_num, by go_num, by go_num, by go_num, by omega, by omega, by omega, hv⟩
          case measure => simp [intOf]
        · rw [Nat.one_mul] at hv b4
          go_wp2
          go_round
          case rel => exact ⟨i, acc + p, nd + 1, n1, n2, by omega, by go_num, by go_num, by go_num, by go_num, by go_num, by omega, by omega, by omega, hv⟩
          case measure => simp [intOf]
      by_cases c66 : (s[i].toNat : Int) = 66
      · skip
        clear c49 c68
        have hcl := (Or.inr c66 : (s[i].toNat : Int) = 68 ∨ (s[i].toNat : Int) = 66)
        have C49 : ((s[i].toNat : Int) == 49) = false := by rw [c66]; rfl
        have C68 : ((s[i].toNat : Int) == 68) = false := by rw [c66]; rfl
        have C66 : ((s[i].toNat : Int) == 66) = true := by rw [c66]; rfl
        have C83 : ((s[i].toNat : Int) == 83) = false := by rw [c66]; rfl
        have C84 : ((s[i].toNat : Int) == 84) = false := by rw [c66]; rfl
        have CC := hide c66
        clear c66
        have l97 : decide ((97 : Int) ≤ (s[i].toNat : Int)) = false := by rw [CC.out]; rfl
        go_wp2_with fail
        refine (r_bitw rd (by omega) _ (by omega) (by omega) _).mono ?_
        rintro e w' ⟨⟨b, rfl, hb1, hb2⟩, rfl⟩
        rw [Int.toNat_natCast] at hb2
        have hh2 := draw_rd hcl (bit_int hb2) hh
        clear hh hb2
        go_wp2_with fail
        refine (r_power _ (by omega) (by omega) _).mono ?_
        rintro e w' ⟨⟨p, rfl, hp1, hp2, hp3⟩, rfl⟩
        have hy : ((s.size : Int) - 1 - (i : Int)).toNat = s.size - (i + 1) := by omega
        rw [hy] at hp3
        clear hy
        rw [← hp3.out, half_int] at hh2
        have b4 : acc + b * p < 4294967296 := by have := hh2.out; omega
        have hv : Hid (acc + b * p + 2 ^ (s.size - i) * Pic.draw (Pic.rv s.data.toList i) ((rd : Int) / 2 ^ (nd + 1)) ((rs1 : Int) / 2 ^ n1) ((rs2 : Int) / 2 ^ n2) im = T) := by rw [← HP2.out, ← hp3.out]; exact hh2
        clear hh2 hp3 hcl
        rcases (show b = 0 ∨ b = 1 by omega) with rfl | rfl
        · rw [Nat.zero_mul, Nat.add_zero] at hv
          go_wp2
          go_round
          case rel => exact ⟨i, acc, nd + 1, n1, n2, by omega, by go_num, by go_num, by go_num, by go_num, by go_num, by omega, by omega, by omega, hv⟩
          case measure => simp [intOf]
        · rw [Nat.one_mul] at hv b4
          go_wp2
          go_round
          case rel => exact ⟨i, acc + p, nd + 1, n1, n2, by omega, by go_num, by go_num, by go_num, by go_num, by go_num, by omega, by omega, by omega, hv⟩
          case measure => simp [intOf]
      by_cases c83 : (s[i].toNat : Int) = 83
      · skip
        clear c49 c68 c66
        have hcl := c83
        have C49 : ((s[i].toNat : Int) == 49) = false := by rw [c83]; rfl
        have C68 : ((s[i].toNat : Int) == 68) = false := by rw [c83]; rfl
        have C66 : ((s[i].toNat : Int) == 66) = false := by rw [c83]; rfl
        have C83 : ((s[i].toNat : Int) == 83) = true := by rw [c83]; rfl
        have C84 : ((s[i].toNat : Int) == 84) = false := by rw [c83]; rfl
        have CC := hide c83
        clear c83
        have l97 : decide ((97 : Int) ≤ (s[i].toNat : Int)) = false := by rw [CC.out]; rfl
        go_wp2_with fail
        refine (r_bitw rs1 (by omega) _ (by omega) (by omega) _).mono ?_
        rintro e w' ⟨⟨b, rfl, hb1, hb2⟩, rfl⟩
        rw [Int.toNat_natCast] at hb2
        have hh2 := draw_rs1 hcl (bit_int hb2) hh
        clear hh hb2
        go_wp2_with fail
        refine (r_power _ (by omega) (by omega) _).mono ?_
        rintro e w' ⟨⟨p, rfl, hp1, hp2, hp3⟩, rfl⟩
        have hy : ((s.size : Int) - 1 - (i : Int)).toNat = s.size - (i + 1) := by omega
        rw [hy] at hp3
        clear hy
        rw [← hp3.out, half_int] at hh2
        have b4 : acc + b * p < 4294967296 := by have := hh2.out; omega
        have hv : Hid (acc + b * p + 2 ^ (s.size - i) * Pic.draw (Pic.rv s.data.toList i) ((rd : Int) / 2 ^ nd) ((rs1 : Int) / 2 ^ (n1 + 1)) ((rs2 : Int) / 2 ^ n2) im = T) := by rw [← HP2.out, ← hp3.out]; exact hh2
        clear hh2 hp3 hcl
        rcases (show b = 0 ∨ b = 1 by omega) with rfl | rfl
        · rw [Nat.zero_mul, Nat.add_zero] at hv
          go_wp2
          go_round
          case rel => exact ⟨i, acc, nd, n1 + 1, n2, by omega, by go_num, by go_num, by go_num, by go_num, by go_num, by omega, by omega, by omega, hv⟩
          case measure => simp [intOf]
        · rw [Nat.one_mul] at hv b4
          go_wp2
          go_round
          case rel => exact ⟨i, acc + p, nd, n1 + 1, n2, by omega, by go_num, by go_num, by go_num, by go_num, by go_num, by omega, by omega, by omega, hv⟩
          case measure => simp [intOf]
      by_cases c84 : (s[i].toNat : Int) = 84
      · skip
        clear c49 c68 c66 c83
        have hcl := c84
        have C49 : ((s[i].toNat : Int) == 49) = false := by rw [c84]; rfl
        have C68 : ((s[i].toNat : Int) == 68) = false := by rw [c84]; rfl
        have C66 : ((s[i].toNat : Int) == 66) = false := by rw [c84]; rfl
        have C83 : ((s[i].toNat : Int) == 83) = false := by rw [c84]; rfl
        have C84 : ((s[i].toNat : Int) == 84) = true := by rw [c84]; rfl
        have CC := hide c84
        clear c84
        have l97 : decide ((97 : Int) ≤ (s[i].toNat : Int)) = false := by rw [CC.out]; rfl
        go_wp2_with fail
        refine (r_bitw rs2 (by omega) _ (by omega) (by omega) _).mono ?_
        rintro e w' ⟨⟨b, rfl, hb1, hb2⟩, rfl⟩
        rw [Int.toNat_natCast] at hb2
        have hh2 := draw_rs2 hcl (bit_int hb2) hh
        clear hh hb2
        go_wp2_with fail
        refine (r_power _ (by omega) (by omega) _).mono ?_
        rintro e w' ⟨⟨p, rfl, hp1, hp2, hp3⟩, rfl⟩
        have hy : ((s.size : Int) - 1 - (i : Int)).toNat = s.size - (i + 1) := by omega
        rw [hy] at hp3
        clear hy
        rw [← hp3.out, half_int] at hh2
        have b4 : acc + b * p < 4294967296 := by have := hh2.out; omega
        have hv : Hid (acc + b * p + 2 ^ (s.size - i) * Pic.draw (Pic.rv s.data.toList i) ((rd : Int) / 2 ^ nd) ((rs1 : Int) / 2 ^ n1) ((rs2 : Int) / 2 ^ (n2 + 1)) im = T) := by rw [← HP2.out, ← hp3.out]; exact hh2
        clear hh2 hp3 hcl
        rcases (show b = 0 ∨ b = 1 by omega) with rfl | rfl
        · rw [Nat.zero_mul, Nat.add_zero] at hv
          go_wp2
          go_round
          case rel => exact ⟨i, acc, nd, n1, n2 + 1, by omega, by go_num, by go_num, by go_num, by go_num, by go_num, by omega, by omega, by omega, hv⟩
          case measure => simp [intOf]
        · rw [Nat.one_mul] at hv b4
          go_wp2
          go_round
          case rel => exact ⟨i, acc + p, nd, n1, n2 + 1, by omega, by go_num, by go_num, by go_num, by go_num, by go_num, by omega, by omega, by omega, hv⟩
          case measure => simp [intOf]
      have C49 : ((s[i].toNat : Int) == 49) = false := by rw [beq_eq_false_iff_ne]; exact c49
      have C68 : ((s[i].toNat : Int) == 68) = false := by rw [beq_eq_false_iff_ne]; exact c68
      have C66 : ((s[i].toNat : Int) == 66) = false := by rw [beq_eq_false_iff_ne]; exact c66
      have C83 : ((s[i].toNat : Int) == 83) = false := by rw [beq_eq_false_iff_ne]; exact c83
      have C84 : ((s[i].toNat : Int) == 84) = false := by rw [beq_eq_false_iff_ne]; exact c84
      by_cases c97 : 97 ≤ s[i].toNat
      · skip
        have hlet : Pic.isLet s[i] = true := by simp [Pic.isLet]; omega
        have c97' : (97 : Int) ≤ (s[i].toNat : Int) := by omega
        clear c49 c68 c66 c83 c84
        go_wp2_with fail
        obtain ⟨V, hV⟩ : ∃ V : Nat, (V : Int) = im + 1099511627776 := ⟨(im + 1099511627776).toNat, by omega⟩
        rw [← hV]
        have bV : V ≤ 2199023255552 := by omega
        have hV2 : V = (im + 1099511627776).toNat := by omega
        have HV2 := hide hV2
        clear hV hV2
        refine (r_bitw V (by omega) _ (by omega) (by omega) _).mono ?_
        rintro e w' ⟨⟨b, rfl, hb1, hb2⟩, rfl⟩
        have hy : ((s[i].toNat : Int) - 97).toNat = s[i].toNat - 97 := by omega
        rw [hy, HV2.out] at hb2
        clear hy
        have hh2 := draw_imm hlet (imm_shift im i1 _ _ (by omega) hb2) hh
        clear hh hb2
        go_wp2_with fail
        refine (r_power _ (by omega) (by omega) _).mono ?_
        rintro e w' ⟨⟨p, rfl, hp1, hp2, hp3⟩, rfl⟩
        have hy : ((s.size : Int) - 1 - (i : Int)).toNat = s.size - (i + 1) := by omega
        rw [hy] at hp3
        clear hy
        rw [← hp3.out] at hh2
        have b4 : acc + b * p < 4294967296 := by have := hh2.out; omega
        have hv : Hid (acc + b * p + 2 ^ (s.size - i) * Pic.draw (Pic.rv s.data.toList i) ((rd : Int) / 2 ^ nd) ((rs1 : Int) / 2 ^ n1) ((rs2 : Int) / 2 ^ n2) im = T) := by rw [← HP2.out, ← hp3.out]; exact hh2
        clear hh2 hp3
        rcases (show b = 0 ∨ b = 1 by omega) with rfl | rfl
        · rw [Nat.zero_mul, Nat.add_zero] at hv
          go_wp2
          go_round
          case rel => exact ⟨i, acc, nd, n1, n2, by omega, by go_num, by go_num, by go_num, by go_num, by go_num, by omega, by omega, by omega, hv⟩
          case measure => simp [intOf]
        · rw [Nat.one_mul] at hv b4
          go_wp2
          go_round
          case rel => exact ⟨i, acc + p, nd, n1, n2, by omega, by go_num, by go_num, by go_num, by go_num, by go_num, by omega, by omega, by omega, hv⟩
          case measure => simp [intOf]
      have hlet : Pic.isLet s[i] = false := by simp [Pic.isLet]; omega
      have hh2 := draw_none c49 c68 c66 c83 c84 hlet hh
      have c97' : decide ((97 : Int) ≤ (s[i].toNat : Int)) = false := by simp; omega
      clear c49 c68 c66 c83 c84 hh
      go_wp2_with fail
      refine (r_power _ (by omega) (by omega) _).mono ?_
      rintro e w' ⟨⟨p, rfl, hp1, hp2, hp3⟩, rfl⟩
      have hy : ((s.size : Int) - 1 - (i : Int)).toNat = s.size - (i + 1) := by omega
      rw [hy] at hp3
      clear hy
      have hv : Hid (acc + 2 ^ (s.size - i) * Pic.draw (Pic.rv s.data.toList i) ((rd : Int) / 2 ^ nd) ((rs1 : Int) / 2 ^ n1) ((rs2 : Int) / 2 ^ n2) im = T) := by rw [← HP2.out]; exact hh2
      clear hh2 hp3
      go_wp2
      go_round
      case rel => exact ⟨i, acc, nd, n1, n2, by omega, by go_num, by go_num, by go_num, by go_num, by go_num, by omega, by omega, by omega, hv⟩
      case measure => simp [intOf]
end Go.Proofs.YthfofjkfbhahoaaGreatDoor
end
section
namespace Go.Proofs.YthfofjkfbhahoaaGreatDoor
open Go.RowKit
set_option linter.unusedSimpArgs false
theorem fields_ins : (Tryz.prog.fieldsOf 53).toList.map (fun f => (f.name, f.type, f.offset)) = [("Op", 3, 0), ("Rd", 3, 1), ("Rs1", 3, 2), ("Rs2", 3, 3), ("Imm", 3, 4), ("Len", 3, 5)] := by kernel_rfl
theorem und_ins : Tryz.prog.underlying 53 = some (.struct (Tryz.prog.fieldsOf 53)) := by kernel_rfl
theorem stood_ins : Tryz.prog.stoodInHeld 53 = false := by kernel_rfl
theorem eqFields_ins (d : Nat) (a0 a1 a2 a3 a4 a5 b0 b1 b2 b3 b4 b5 : Int) (fs : List Field) (h : fs.map (fun f => (f.name, f.type, f.offset)) = [("Op", 3, 0), ("Rd", 3, 1), ("Rs1", 3, 2), ("Rs2", 3, 3), ("Imm", 3, 4), ("Len", 3, 5)]) (w : World) :
    (Op.eqFields (d + 1) #[.int .i64 a0, .int .i64 a1, .int .i64 a2, .int .i64 a3, .int .i64 a4, .int .i64 a5] #[.int .i64 b0, .int .i64 b1, .int .i64 b2, .int .i64 b3, .int .i64 b4, .int .i64 b5] fs).run Tryz.prog w =
      .ok (a0 == b0 && a1 == b1 && a2 == b2 && a3 == b3 && a4 == b4 && a5 == b5) w := by
  rcases fs with _ | ⟨f0, fs⟩
  · simp at h
  rcases fs with _ | ⟨f1, fs⟩
  · simp at h
  rcases fs with _ | ⟨f2, fs⟩
  · simp at h
  rcases fs with _ | ⟨f3, fs⟩
  · simp at h
  rcases fs with _ | ⟨f4, fs⟩
  · simp at h
  rcases fs with _ | ⟨f5, fs⟩
  · simp at h
  rcases fs with _ | ⟨f6, fs⟩
  · simp only [List.map_cons, List.map_nil, List.cons.injEq, Prod.mk.injEq, and_true] at h
    obtain ⟨⟨n0, t0, o0⟩, ⟨n1, t1, o1⟩, ⟨n2, t2, o2⟩, ⟨n3, t3, o3⟩, ⟨n4, t4, o4⟩, n5, t5, o5⟩ := h
    simp [Op.eqFields, n0, n1, n2, n3, n4, n5, t0, t1, t2, t3, t4, t5, o0, o1, o2, o3, o4, o5, go_sem, part]
    by_cases h0 : a0 = b0 <;> by_cases h1 : a1 = b1 <;> by_cases h2 : a2 = b2 <;> by_cases h3 : a3 = b3 <;> by_cases h4 : a4 = b4 <;> by_cases h5 : a5 = b5 <;> simp [h0, h1, h2, h3, h4, h5]
  · simp at h
theorem eql_ins (a0 a1 a2 a3 a4 a5 b0 b1 b2 b3 b4 b5 : Int) (w : World) :
    (binOp .eql 53 (.agg #[.int .i64 a0, .int .i64 a1, .int .i64 a2, .int .i64 a3, .int .i64 a4, .int .i64 a5]) (.agg #[.int .i64 b0, .int .i64 b1, .int .i64 b2, .int .i64 b3, .int .i64 b4, .int .i64 b5])).run Tryz.prog w =
      .ok (.bool (a0 == b0 && a1 == b1 && a2 == b2 && a3 == b3 && a4 == b4 && a5 == b5)) w := by
  rw [run_eql_struct, show (10000 : Nat) = 9998 + 1 + 1 from rfl, run_equalIn_agg w (9998 + 1) 53 _ _ und_ins stood_ins, eqFields_ins 9998 _ _ _ _ _ _ _ _ _ _ _ _ _ fields_ins]
  rfl
end Go.Proofs.YthfofjkfbhahoaaGreatDoor
end
section
namespace Go.Proofs.YthfofjkfbhahoaaGreatDoor
open Go.RowKit
set_option linter.unusedSimpArgs false
/-- the least word from v on, of m, that means i -/
def seekR (i : Ins) : Nat → Nat → Option Nat
  | _, 0 => none
  | v, m + 1 => if v % 4 ≠ 3 ∧ sameB (decodeR v).1 i = true then some v else seekR i (v + 1) m
def badR (i : Ins) : Bool := decide (i.rd < 0) || decide (i.rs1 < 0) || decide (i.rs2 < 0) || decide (i.im < -1099511627776) || decide (1099511627776 < i.im)
def drawR (i : Ins) : Nat := Pic.draw (Pic.rv (TabR.word i.op).pic.data.toList (TabR.word i.op).pic.size) i.rd i.rs1 i.rs2 i.im
set_option maxHeartbeats 400000 in
theorem r_Encode_op (i : Ins) (h : i.op < 1 ∨ 70 < i.op) (w : World) :
    Calls Tryz.prog 71 #[insV i] w fun e w' => e = .returned (.tuple #[.int .i64 0, .int .i64 3]) ∧ Below w.heap.size w w' := by
  unfold insV
  rcases h with h | h
  · go_enter Tryz.func71, Tryz.ntmps71
    go_wp2
    go_ret2
    exact ⟨rfl, (Below.refl _ _).alloc (Nat.le_refl _) _⟩
  · have h' : ¬ i.op < 1 := by omega
    go_enter Tryz.func71, Tryz.ntmps71
    go_wp2
    go_ret2
    exact ⟨rfl, (Below.refl _ _).alloc (Nat.le_refl _) _⟩
set_option maxHeartbeats 400000 in
theorem r_Encode_len (i : Ins) (h1 : 1 ≤ i.op) (h2 : i.op ≤ 70) (h4 : (i.ln == 4) = false) (h5 : (i.ln == 2) = false) (w : World) :
    Calls Tryz.prog 71 #[insV i] w fun e w' => e = .returned (.tuple #[.int .i64 0, .int .i64 3]) ∧ Below w.heap.size w w' := by
  unfold insV
  go_enter Tryz.func71, Tryz.ntmps71
  go_wp2
  go_ret2
  exact ⟨rfl, (Below.refl _ _).alloc (Nat.le_refl _) _⟩
theorem seek_step (i : Ins) (v m : Nat) : seekR i v (m + 1) = if v % 4 ≠ 3 ∧ sameB (decodeR v).1 i = true then some v else seekR i (v + 1) m := rfl
set_option maxRecDepth 100000 in
set_option maxHeartbeats 1000000 in
theorem r_Encode_2 (i : Ins) (h1 : 1 ≤ i.op) (h2 : i.op ≤ 70) (h4 : (i.ln == 4) = false) (h5 : (i.ln == 2) = true) (M : Nat) (hM : Hid (M = 65536)) (w : World) :
    Calls Tryz.prog 71 #[insV i] w fun e w' => (∃ st : Option Nat, Hid (st = seekR i 0 M) ∧ e = .returned (.tuple #[.int .i64 (st.getD 0 : Nat), .int .i64 (bif st.isSome then 0 else 3)])) ∧ Below w.heap.size w w' := by
  unfold insV
  go_enter Tryz.func71, Tryz.ntmps71
  go_wp2
  go_loopw [9] (fun k wr => ∃ v m : Nat, Hid (v + m = M) ∧ k = .int .i64 v ∧ Ized i w wr ∧ Hid (seekR i v m = seekR i 0 M)) (fun k _ => M - (intOf k).toNat)
  case atStart => exact ⟨0, M, (by omega : 0 + M = M), rfl, Ized.start _ _ _, rfl⟩
  case round =>
    obtain ⟨v, m, hv, rfl, hz, hsc⟩ := hrel
    cases m with
    | succ m =>
      have hlt : (v : Int) < 65536 := by have a := hv.out; have b := hM.out; omega
      have hms : v < M := by have a := hv.out; omega
      have HMS := hide hms
      clear hms
      rw [seek_step] at hsc
      have hv' : Hid (v + 1 + m = M) := (by have a := hv.out; omega : v + 1 + m = M)
      clear hv
      by_cases h3 : v % 4 = 3
      · have h3' : ((v : Int) % 4 != 3) = false := by simp; omega
        rw [if_neg (fun h => h.1 h3)] at hsc
        have H3 := hide h3
        clear h3
        go_wp2
        go_roundw
        case rel => exact ⟨v + 1, m, hv', by go_num, hz, hsc⟩
        case measure => have := HMS.out; simp [intOf]; omega
      · have h3' : ((v : Int) % 4 != 3) = true := by simp; omega
        go_wp2_with fail
        refine (r_Decode v _).mono ?_
        rintro e w1 ⟨rfl, hb1⟩
        replace hz := hz.more hb1
        clear hb1
        obtain ⟨j, hj⟩ : ∃ j, j = (decodeR v).1 := ⟨_, rfl⟩
        rw [← hj] at hsc ⊢
        have HJ := hide hj
        clear hj
        have z0 := hz.c0
        have z1 := hz.c1
        have z2 := hz.c2
        have z3 := hz.c3
        have z4 := hz.c4
        have z5 := hz.c5
        have hlt := hz.lt
        simp only [insV]
        have heq := eql_ins j.op j.rd j.rs1 j.rs2 j.im j.ln i.op i.rd i.rs1 i.rs2 i.im i.ln
        cases hs : sameB j i
        · rw [show (j.op == i.op && j.rd == i.rd && j.rs1 == i.rs1 && j.rs2 == i.rs2 && j.im == i.im && j.ln == i.ln) = false from hs] at heq
          rw [if_neg (fun h => by rw [hs] at h; cases h.2)] at hsc
          go_wp2
          go_roundw
          case rel => exact ⟨v + 1, m, hv', by go_num, hz.alloc _, hsc⟩
          case measure => have := HMS.out; simp [intOf]; omega
        · rw [show (j.op == i.op && j.rd == i.rd && j.rs1 == i.rs1 && j.rs2 == i.rs2 && j.im == i.im && j.ln == i.ln) = true from hs] at heq
          rw [if_pos ⟨h3, hs⟩] at hsc
          go_wp2
          go_ret2
          exact ⟨⟨some v, hsc, rfl⟩, (hz.alloc _).below⟩
    | zero =>
      have hlt : ¬ (v : Int) < 65536 := by have a := hv.out; have b := hM.out; omega
      go_wp2
      go_ret2
      exact ⟨⟨none, hsc, rfl⟩, hz.below⟩
theorem r_drawI (s : ByteArray) (hs : s.size ≤ 32) (hl : ∀ x ∈ s.data.toList, x.toNat ≤ 122) (op ln : Int) (rd rs1 rs2 : Int) (p0 : 0 ≤ rd) (p1 : 0 ≤ rs1) (p2 : 0 ≤ rs2) (bd : rd ≤ 9223372036854775807) (b1 : rs1 ≤ 9223372036854775807) (b2 : rs2 ≤ 9223372036854775807) (im : Int) (i1 : -1099511627776 ≤ im) (i2 : im ≤ 1099511627776) (w : World) :
    Calls Tryz.prog 113 #[.string s, .agg #[.int .i64 op, .int .i64 rd, .int .i64 rs1, .int .i64 rs2, .int .i64 im, .int .i64 ln]] w fun e w' =>
      e = .returned (.int .i64 (Pic.draw (Pic.rv s.data.toList s.size) rd rs1 rs2 im)) ∧ Below w.heap.size w w' := by
  obtain ⟨a, rfl⟩ := Int.eq_ofNat_of_zero_le p0
  obtain ⟨b, rfl⟩ := Int.eq_ofNat_of_zero_le p1
  obtain ⟨c, rfl⟩ := Int.eq_ofNat_of_zero_le p2
  exact r_draw s hs hl op ln a b c (by omega) (by omega) (by omega) im i1 i2 w
theorem word_row (k : Int) (h1 : 1 ≤ k) (h2 : k ≤ 70) : (TabR.word k).pic.size ≤ 32 ∧ (∀ x ∈ (TabR.word k).pic.data.toList, x.toNat ≤ 122) := by
  obtain ⟨n, rfl⟩ := Int.eq_ofNat_of_zero_le (show 0 ≤ k by omega)
  obtain ⟨a, b, _⟩ := rowOk_parts (List.all_eq_true.1 word_ok n (by simp; omega))
  exact ⟨a, b⟩
set_option maxHeartbeats 1000000 in
theorem r_Encode_4b0 (i : Ins) (h1 : 1 ≤ i.op) (h2 : i.op ≤ 70) (h4 : (i.ln == 4) = true) (p0 : i.rd < 0) (w : World) :
    Calls Tryz.prog 71 #[insV i] w fun e w' => e = .returned (.tuple #[.int .i64 0, .int .i64 3]) ∧ Below w.heap.size w w' := by
  unfold insV
  go_enter Tryz.func71, Tryz.ntmps71
  go_wp2_with fail
  refine (r_word i.op h1 h2 _).mono ?_
  rintro e w1 ⟨rfl, hb1⟩
  have hz := (Ized.start i w _).more hb1
  clear hb1
  simp only [rowR]
  have z0 := hz.c0
  have z1 := hz.c1
  have z2 := hz.c2
  have z3 := hz.c3
  have z4 := hz.c4
  have z5 := hz.c5
  have hlt := hz.lt
  go_wp2
  go_ret2
  exact ⟨rfl, ((hz.alloc _).alloc _).below⟩
set_option maxHeartbeats 1000000 in
theorem r_Encode_4b1 (i : Ins) (h1 : 1 ≤ i.op) (h2 : i.op ≤ 70) (h4 : (i.ln == 4) = true) (p0 : 0 ≤ i.rd) (p1 : i.rs1 < 0) (w : World) :
    Calls Tryz.prog 71 #[insV i] w fun e w' => e = .returned (.tuple #[.int .i64 0, .int .i64 3]) ∧ Below w.heap.size w w' := by
  unfold insV
  go_enter Tryz.func71, Tryz.ntmps71
  go_wp2_with fail
  refine (r_word i.op h1 h2 _).mono ?_
  rintro e w1 ⟨rfl, hb1⟩
  have hz := (Ized.start i w _).more hb1
  clear hb1
  simp only [rowR]
  have z0 := hz.c0
  have z1 := hz.c1
  have z2 := hz.c2
  have z3 := hz.c3
  have z4 := hz.c4
  have z5 := hz.c5
  have hlt := hz.lt
  go_wp2
  go_ret2
  exact ⟨rfl, ((hz.alloc _).alloc _).below⟩
set_option maxHeartbeats 1000000 in
theorem r_Encode_4b2 (i : Ins) (h1 : 1 ≤ i.op) (h2 : i.op ≤ 70) (h4 : (i.ln == 4) = true) (p0 : 0 ≤ i.rd) (p1 : 0 ≤ i.rs1) (p2 : i.rs2 < 0) (w : World) :
    Calls Tryz.prog 71 #[insV i] w fun e w' => e = .returned (.tuple #[.int .i64 0, .int .i64 3]) ∧ Below w.heap.size w w' := by
  unfold insV
  go_enter Tryz.func71, Tryz.ntmps71
  go_wp2_with fail
  refine (r_word i.op h1 h2 _).mono ?_
  rintro e w1 ⟨rfl, hb1⟩
  have hz := (Ized.start i w _).more hb1
  clear hb1
  simp only [rowR]
  have z0 := hz.c0
  have z1 := hz.c1
  have z2 := hz.c2
  have z3 := hz.c3
  have z4 := hz.c4
  have z5 := hz.c5
  have hlt := hz.lt
  go_wp2
  go_ret2
  exact ⟨rfl, ((hz.alloc _).alloc _).below⟩
set_option maxHeartbeats 1000000 in
theorem r_Encode_4b3 (i : Ins) (h1 : 1 ≤ i.op) (h2 : i.op ≤ 70) (h4 : (i.ln == 4) = true) (p0 : 0 ≤ i.rd) (p1 : 0 ≤ i.rs1) (p2 : 0 ≤ i.rs2) (p3 : i.im < -1099511627776) (w : World) :
    Calls Tryz.prog 71 #[insV i] w fun e w' => e = .returned (.tuple #[.int .i64 0, .int .i64 3]) ∧ Below w.heap.size w w' := by
  unfold insV
  go_enter Tryz.func71, Tryz.ntmps71
  go_wp2_with fail
  refine (r_word i.op h1 h2 _).mono ?_
  rintro e w1 ⟨rfl, hb1⟩
  have hz := (Ized.start i w _).more hb1
  clear hb1
  simp only [rowR]
  have z0 := hz.c0
  have z1 := hz.c1
  have z2 := hz.c2
  have z3 := hz.c3
  have z4 := hz.c4
  have z5 := hz.c5
  have hlt := hz.lt
  go_wp2
  go_ret2
  exact ⟨rfl, ((hz.alloc _).alloc _).below⟩
set_option maxHeartbeats 1000000 in
theorem r_Encode_4b4 (i : Ins) (h1 : 1 ≤ i.op) (h2 : i.op ≤ 70) (h4 : (i.ln == 4) = true) (p0 : 0 ≤ i.rd) (p1 : 0 ≤ i.rs1) (p2 : 0 ≤ i.rs2) (p3 : -1099511627776 ≤ i.im) (p4 : 1099511627776 < i.im) (w : World) :
    Calls Tryz.prog 71 #[insV i] w fun e w' => e = .returned (.tuple #[.int .i64 0, .int .i64 3]) ∧ Below w.heap.size w w' := by
  unfold insV
  go_enter Tryz.func71, Tryz.ntmps71
  go_wp2_with fail
  refine (r_word i.op h1 h2 _).mono ?_
  rintro e w1 ⟨rfl, hb1⟩
  have hz := (Ized.start i w _).more hb1
  clear hb1
  simp only [rowR]
  have z0 := hz.c0
  have z1 := hz.c1
  have z2 := hz.c2
  have z3 := hz.c3
  have z4 := hz.c4
  have z5 := hz.c5
  have hlt := hz.lt
  go_wp2
  go_ret2
  exact ⟨rfl, ((hz.alloc _).alloc _).below⟩
set_option maxRecDepth 100000 in
set_option maxHeartbeats 2000000 in
theorem r_Encode_4 (i : Ins) (h1 : 1 ≤ i.op) (h2 : i.op ≤ 70) (h4 : (i.ln == 4) = true) (p0 : 0 ≤ i.rd) (p1 : 0 ≤ i.rs1) (p2 : 0 ≤ i.rs2) (q0 : i.rd ≤ 9223372036854775807) (q1 : i.rs1 ≤ 9223372036854775807) (q2 : i.rs2 ≤ 9223372036854775807) (p3 : -1099511627776 ≤ i.im) (p4 : i.im ≤ 1099511627776) (w : World) :
    Calls Tryz.prog 71 #[insV i] w fun e w' => e = .returned (.tuple #[.int .i64 (bif sameB (decodeR (drawR i)).1 i then (drawR i : Int) else 0), .int .i64 (bif sameB (decodeR (drawR i)).1 i then 0 else 3)]) ∧ Below w.heap.size w w' := by
  obtain ⟨k1, k2⟩ := word_row i.op h1 h2
  have K2 := hide k2
  clear k2
  unfold insV
  obtain ⟨R, hR⟩ : ∃ R, R = sameB (decodeR (drawR i)).1 i := ⟨_, rfl⟩
  obtain ⟨D, hD⟩ : ∃ D, D = drawR i := ⟨_, rfl⟩
  rw [← hR, ← hD]
  rw [← hD] at hR
  have HR := hide hR
  have HD := hide hD
  clear hR hD
  go_enter Tryz.func71, Tryz.ntmps71
  go_wp2_with fail
  refine (r_word i.op h1 h2 _).mono ?_
  rintro e w1 ⟨rfl, hb1⟩
  have hz := (Ized.start i w _).more hb1
  clear hb1
  simp only [rowR]
  have z0 := hz.c0
  have z1 := hz.c1
  have z2 := hz.c2
  have z3 := hz.c3
  have z4 := hz.c4
  have z5 := hz.c5
  have hlt := hz.lt
  go_wp2_with fail
  refine (r_drawI (TabR.word i.op).pic k1 K2.out i.op i.ln i.rd i.rs1 i.rs2 p0 p1 p2 q0 q1 q2 i.im p3 p4 _).mono ?_
  rintro e w2 ⟨rfl, hb2⟩
  rw [show Pic.draw (Pic.rv (TabR.word i.op).pic.data.toList (TabR.word i.op).pic.size) i.rd i.rs1 i.rs2 i.im = D from HD.out.symm]
  clear z0 z1 z2 z3 z4 z5 hlt
  replace hz := ((hz.alloc _).alloc _).more hb2
  clear hb2
  go_wp2_with fail
  refine (r_Decode D _).mono ?_
  rintro e w3 ⟨rfl, hb3⟩
  replace hz := hz.more hb3
  clear hb3
  obtain ⟨j, hj⟩ : ∃ j, j = (decodeR D).1 := ⟨_, rfl⟩
  rw [← hj]
  have HS : Hid (R = sameB j i) := by rw [hj]; exact HR
  clear hj
  have z0 := hz.c0
  have z1 := hz.c1
  have z2 := hz.c2
  have z3 := hz.c3
  have z4 := hz.c4
  have z5 := hz.c5
  have hlt := hz.lt
  simp only [insV]
  have heq := eql_ins j.op j.rd j.rs1 j.rs2 j.im j.ln i.op i.rd i.rs1 i.rs2 i.im i.ln
  rw [show (j.op == i.op && j.rd == i.rd && j.rs1 == i.rs1 && j.rs2 == i.rs2 && j.im == i.im && j.ln == i.ln) = R from HS.out.symm] at heq
  cases R
  · go_wp2
    go_ret2
    exact ⟨rfl, (hz.alloc _).below⟩
  · go_wp2
    go_ret2
    exact ⟨rfl, (hz.alloc _).below⟩
/-- what the document's Encode answers -/
def encodeR (i : Ins) : Int × Int :=
  if i.op < 1 ∨ 70 < i.op then (0, 3) else
  if i.ln = 4 then
    (if i.rd < 0 ∨ i.rs1 < 0 ∨ i.rs2 < 0 ∨ i.im < -1099511627776 ∨ 1099511627776 < i.im then (0, 3) else
      if sameB (decodeR (drawR i)).1 i = true then ((drawR i : Int), 0) else (0, 3)) else
  if i.ln = 2 then (match seekR i 0 65536 with | some v => ((v : Int), 0) | none => (0, 3)) else (0, 3)
theorem r_Encode (i : Ins) (q0 : i.rd ≤ 9223372036854775807) (q1 : i.rs1 ≤ 9223372036854775807) (q2 : i.rs2 ≤ 9223372036854775807) (w : World) :
    Calls Tryz.prog 71 #[insV i] w fun e w' => e = .returned (.tuple #[.int .i64 (encodeR i).1, .int .i64 (encodeR i).2]) ∧ Below w.heap.size w w' := by
  by_cases c1 : i.op < 1 ∨ 70 < i.op
  · have e : encodeR i = (0, 3) := by unfold encodeR; rw [if_pos c1]
    rw [e]
    exact r_Encode_op i c1 w
  by_cases c2 : i.ln = 4
  · have h4 : (i.ln == 4) = true := beq_iff_eq.2 c2
    by_cases c3 : i.rd < 0 ∨ i.rs1 < 0 ∨ i.rs2 < 0 ∨ i.im < -1099511627776 ∨ 1099511627776 < i.im
    · have e : encodeR i = (0, 3) := by unfold encodeR; rw [if_neg c1, if_pos c2, if_pos c3]
      rw [e]
      by_cases d0 : i.rd < 0
      · exact r_Encode_4b0 i (by omega) (by omega) h4 d0 w
      by_cases d1 : i.rs1 < 0
      · exact r_Encode_4b1 i (by omega) (by omega) h4 (by omega) d1 w
      by_cases d2 : i.rs2 < 0
      · exact r_Encode_4b2 i (by omega) (by omega) h4 (by omega) (by omega) d2 w
      by_cases d3 : i.im < -1099511627776
      · exact r_Encode_4b3 i (by omega) (by omega) h4 (by omega) (by omega) (by omega) d3 w
      · exact r_Encode_4b4 i (by omega) (by omega) h4 (by omega) (by omega) (by omega) (by omega) (by omega) w
    · refine (r_Encode_4 i (by omega) (by omega) h4 (by omega) (by omega) (by omega) q0 q1 q2 (by omega) (by omega) w).mono ?_
      rintro e w' ⟨rfl, hb⟩
      refine ⟨?_, hb⟩
      unfold encodeR
      rw [if_neg c1, if_pos c2, if_neg c3]
      cases hs : sameB (decodeR (drawR i)).1 i
      · rw [if_neg (by decide)]; rfl
      · rw [if_pos rfl]; rfl
  · have h4 : (i.ln == 4) = false := beq_eq_false_iff_ne.2 c2
    by_cases c5 : i.ln = 2
    · refine (r_Encode_2 i (by omega) (by omega) h4 (beq_iff_eq.2 c5) 65536 rfl w).mono ?_
      rintro e w' ⟨⟨st, hst, rfl⟩, hb⟩
      refine ⟨?_, hb⟩
      unfold encodeR
      rw [if_neg c1, if_neg c2, if_pos c5, ← hst.out]
      cases st <;> rfl
    · have e : encodeR i = (0, 3) := by unfold encodeR; rw [if_neg c1, if_neg c2, if_neg c5]
      rw [e]
      exact r_Encode_len i (by omega) (by omega) h4 (beq_eq_false_iff_ne.2 c5) w
end Go.Proofs.YthfofjkfbhahoaaGreatDoor
end
section
namespace Go.Proofs.YthfofjkfbhahoaaGreatDoor
open Go.RowKit
set_option linter.unusedSimpArgs false
theorem same_iff (a b : Ins) : sameB a b = true ↔ a = b := by
  obtain ⟨a0, a1, a2, a3, a4, a5⟩ := a
  obtain ⟨b0, b1, b2, b3, b4, b5⟩ := b
  simp [sameB, and_assoc]
theorem scan_some {f : Nat → Option Ins} {j : Ins} : ∀ (m n : Nat), scan f n m = some j → ∃ k, n ≤ k ∧ k < n + m ∧ f k = some j
  | 0, _, h => by cases h
  | m + 1, n, h => by
    rw [scan_step] at h
    cases hf : f n with
    | some i => rw [hf] at h; simp at h; exact ⟨n, by omega, by omega, by rw [hf, h]⟩
    | none =>
      rw [hf] at h
      obtain ⟨k, h1, h2, h3⟩ := scan_some m (n + 1) h
      exact ⟨k, by omega, by omega, h3⟩
theorem scan_at {f : Nat → Option Ins} {j : Ins} {k0 : Nat} (hk : f k0 = some j) : ∀ (m n : Nat), n ≤ k0 → k0 < n + m → (∀ k, n ≤ k → k < k0 → f k = none) → scan f n m = some j
  | 0, n, h1, h2, _ => by omega
  | m + 1, n, h1, h2, h => by
    rw [scan_step]
    by_cases e : n = k0
    · subst e; rw [hk]
    · rw [h n (by omega) (by omega)]
      exact scan_at hk m (n + 1) (by omega) (by omega) (fun k a b => h k (by omega) b)
theorem least_keep {i : Ins} {st : Option Nat} : ∀ (m n : Nat), (∀ k, n ≤ k → k < n + m → rowWord i k = none) → least i st n m = st
  | 0, _, _ => rfl
  | m + 1, n, h => by
    rw [least_step, h n (by omega) (by omega)]
    exact least_keep m (n + 1) (fun k a b => h k (by omega) (by omega))
theorem least_one {i : Ins} {k0 : Nat} : ∀ (m n : Nat), n ≤ k0 → k0 < n + m → (∀ k, n ≤ k → k < n + m → k ≠ k0 → rowWord i k = none) → least i none n m = rowWord i k0
  | 0, n, h1, h2, _ => by omega
  | m + 1, n, h1, h2, h => by
    rw [least_step]
    by_cases e : n = k0
    · subst e
      rw [least_keep m (n + 1) (fun k a b => h k (by omega) (by omega) (by omega))]
      cases rowWord i n <;> rfl
    · rw [h n (by omega) (by omega) e]
      exact least_one m (n + 1) (by omega) (by omega) (fun k a b c => h k (by omega) (by omega) c)
/-- two pictures that fit no common word: a 0 against a 1 -/
def clash : List UInt8 → List UInt8 → Bool
  | x :: p, y :: q => (x == 48 && y == 49) || (x == 49 && y == 48) || clash p q
  | _, _ => false
theorem clash_no : ∀ (p q : List UInt8) (W : Nat), clash p q = true → Pic.fits p W = true → Pic.fits q W = true → False
  | [], _, _, h, _, _ => by simp [clash] at h
  | _ :: _, [], _, h, _, _ => by simp [clash] at h
  | x :: p, y :: q, W, h, hp, hq => by
    simp only [Pic.fits, Bool.and_eq_true] at hp hq
    simp only [clash, Bool.or_eq_true, Bool.and_eq_true, beq_iff_eq] at h
    rcases h with (⟨rfl, rfl⟩ | ⟨rfl, rfl⟩) | h
    · have a := hp.1; have b := hq.1
      simp [Pic.okBit] at a b; omega
    · have a := hp.1; have b := hq.1
      simp [Pic.okBit] at a b; omega
    · exact clash_no p q (W / 2) h hp.2 hq.2
def longQ (n : Nat) : List UInt8 := Pic.rv (Tab.longRow n).2.1.data.toList (Tab.longRow n).2.1.size
def shortQ (n : Nat) : List UInt8 := Pic.rv (Tab.shortRow n).2.1.data.toList (Tab.shortRow n).2.1.size
theorem long_ops : ((List.range 71).all fun n => n == 0 || ((Tab.longRow n).1 == n && (longQ n).take 2 == [49, 49] && (Tab.longRow n).2.1.size == 32)) = true := by decide +kernel
theorem long_clash : ((List.range 71).all fun n => (List.range 71).all fun m => n == 0 || m ≤ n || clash (longQ n) (longQ m)) = true := by decide +kernel
theorem long_facts (n : Nat) (h1 : 1 ≤ n) (h2 : n ≤ 70) : (Tab.longRow n).1 = n ∧ (longQ n).take 2 = [49, 49] ∧ (Tab.longRow n).2.1.size = 32 := by
  have h := List.all_eq_true.1 long_ops n (by simp; omega)
  simp only [Bool.or_eq_true, Bool.and_eq_true, beq_iff_eq] at h
  rcases h with h | h
  · omega
  · exact ⟨h.1.1, h.1.2, h.2⟩
theorem fits_two {q : List UInt8} {W : Nat} (h : q.take 2 = [49, 49]) (hf : Pic.fits q W = true) : W % 4 = 3 := by
  rcases q with _ | ⟨x, q⟩
  · simp at h
  rcases q with _ | ⟨y, q⟩
  · simp at h
  simp at h
  obtain ⟨rfl, rfl⟩ := h
  simp only [Pic.fits, Bool.and_eq_true] at hf
  have a := hf.1; have b := hf.2.1
  simp [Pic.okBit] at a b; omega
theorem rowFits_fits {t : Int × ByteArray × Int} {W : Nat} (h : rowFits t W = true) : Pic.fits (Pic.rv t.2.1.data.toList t.2.1.size) W = true := by
  unfold rowFits at h; simp only [Bool.and_eq_true] at h; exact h.1
theorem imm_bds (s : ByteArray) (hs : s.size ≤ 32) (neg : Bool) (W : Nat) : -1099511627776 ≤ immOf s neg W ∧ immOf s neg W ≤ 1099511627776 := by
  have a := sum_le (Pic.rv s.data.toList s.size) W
  rw [Pic.rv_length _ _ (by simp)] at a
  have b := high_le (Pic.rv s.data.toList s.size)
  unfold immOf Pic.imm
  split <;> omega
theorem long_decode {n W : Nat} (h1 : 1 ≤ n) (h2 : n ≤ 70) (hW : W < 4294967296) (hf : rowFits (Tab.longRow n) W = true) : (decodeR W).1 = rowIns (Tab.longRow n) W := by
  obtain ⟨f1, f2, f3⟩ := long_facts n h1 h2
  have hfit := rowFits_fits hf
  have h3 := fits_two f2 hfit
  rw [← decode_eq]
  unfold decodeD
  have hsz : sizeOf (W : Int) = 4 := by unfold sizeOf; rw [if_neg (by omega), if_pos (by omega)]
  rw [hsz, if_neg (by decide)]
  have hm : rowMeans 4 W n = some (rowIns (Tab.longRow n) W) := by
    unfold rowMeans
    rw [show rowAt 4 n = Tab.longRow n from rfl, if_pos hf]
  have hc : (rowCount 4).toNat = 70 := rfl
  rw [hc, Int.toNat_natCast, scan_at hm 70 1 h1 (by omega) ?_]
  intro k k1 k2
  unfold rowMeans
  rw [if_neg]
  intro hk
  have hcl := List.all_eq_true.1 (List.all_eq_true.1 long_clash k (by simp; omega)) n (by simp; omega)
  simp only [Bool.or_eq_true, beq_iff_eq, decide_eq_true_eq] at hcl
  rcases hcl with (hcl | hcl) | hcl
  · omega
  · omega
  · exact clash_no _ _ W hcl (rowFits_fits hk) hfit
theorem long_found {W : Nat} {i : Ins} (h : (decodeR W).1 = i) (hop : 1 ≤ i.op) (hln : i.ln = 4) : ∃ n : Nat, (n : Int) = i.op ∧ 1 ≤ n ∧ n ≤ 70 ∧ rowFits (Tab.longRow n) W = true ∧ rowIns (Tab.longRow n) W = i := by
  rw [← decode_eq] at h
  unfold decodeD at h
  rcases size_ways (W : Int) with hz | ⟨hz | hz, _⟩
  · rw [if_pos hz] at h; rw [← h] at hop; simp [ins0] at hop
  · rw [hz, if_neg (by decide), Int.toNat_natCast] at h
    cases hs : scan (rowMeans 4 W) 1 (rowCount 4).toNat with
    | none => rw [hs] at h; rw [← h] at hop; simp at hop
    | some j =>
      rw [hs] at h
      simp only at h
      subst h
      obtain ⟨k, k1, k2, k3⟩ := scan_some _ _ hs
      have hc : (rowCount 4).toNat = 70 := rfl
      rw [hc] at k2
      unfold rowMeans at k3
      split at k3
      · next hf =>
        have hj : rowIns (Tab.longRow k) W = j := Option.some.inj k3
        refine ⟨k, ?_, k1, by omega, hf, hj⟩
        rw [← hj]; exact (long_facts k k1 (by omega)).1.symm
      · cases k3
  · rw [hz, if_neg (by decide), Int.toNat_natCast] at h
    exfalso
    cases hs : scan (rowMeans 2 W) 1 (rowCount 2).toNat with
    | none => rw [hs] at h; rw [← h] at hop; simp at hop
    | some j =>
      rw [hs] at h
      simp only at h
      subst h
      obtain ⟨k, k1, k2, k3⟩ := scan_some _ _ hs
      have hc : (rowCount 2).toNat = 26 := rfl
      rw [hc] at k2
      unfold rowMeans at k3
      split at k3
      · have hj : rowIns (Tab.shortRow k) W = j := Option.some.inj k3
        have h16 : ((List.range 27).all fun n => n == 0 || (Tab.shortRow n).2.1.size == 16) = true := by decide +kernel
        have hk := List.all_eq_true.1 h16 k (by simp; omega)
        simp only [Bool.or_eq_true, beq_iff_eq] at hk
        rcases hk with hk | hk
        · omega
        · have : (rowIns (Tab.shortRow k) W).ln = 2 := by unfold rowIns; simp only; rw [hk]; rfl
          rw [hj] at this; omega
      · cases k3
theorem long_draw (n : Nat) (h1 : 1 ≤ n) (h2 : n ≤ 70) (i : Ins) (hn : (n : Int) = i.op) : rowDraw (Tab.longRow n) i = drawR i := by
  have h := List.all_eq_true.1 chkW n (by simp; omega)
  rw [Bool.or_eq_true] at h
  rcases h with h | h
  · rw [beq_iff_eq] at h; omega
  · simp only [chk, Bool.and_eq_true, beq_iff_eq, decide_eq_true_eq] at h
    have e := h.1.1.1.1.1.1.1.1.1.1.2
    have es : (Tab.longRow n).2.1.size = (TabR.word n).pic.size := by
      have := congrArg List.length e
      simpa using this
    unfold rowDraw drawR
    rw [← hn, e, es]
/-- P4, words of 32 bits -/
theorem encode_eq4 (i : Ins) (hln : i.ln = 4) : encodeD i = encodeR i := by
  unfold encodeD
  rw [hln, show (rowCount 4).toNat = 70 from rfl]
  by_cases hop : i.op < 1 ∨ 70 < i.op
  · rw [least_keep 70 1]
    · unfold encodeR; rw [if_pos hop]
    · intro k k1 k2
      unfold rowWord
      rw [if_neg]
      intro h
      have e : rowAt i.ln k = Tab.longRow k := by rw [hln]; rfl
      rw [e, (long_facts k k1 (by omega)).1] at h
      omega
  · obtain ⟨n, hn⟩ := Int.eq_ofNat_of_zero_le (show 0 ≤ i.op by omega)
    have n1 : 1 ≤ n := by omega
    have n2 : n ≤ 70 := by omega
    have e : ∀ k, rowAt i.ln k = Tab.longRow k := by intro k; rw [hln]; rfl
    rw [least_one (k0 := n) 70 1 n1 (by omega)]
    · have ed := long_draw n n1 n2 i hn.symm
      have hbd : drawR i < 4294967296 := by
        rw [← ed]; exact draw_bd _ (by rw [(long_facts n n1 n2).2.2]; omega) i
      unfold encodeR
      rw [if_neg hop, if_pos hln]
      by_cases hA : rowFits (Tab.longRow n) (drawR i) = true ∧ sameB (rowIns (Tab.longRow n) (drawR i)) i = true
      · have hw : rowWord i n = some (drawR i) := by
          unfold rowWord; rw [e n, ed, if_pos ⟨by rw [(long_facts n n1 n2).1, hn], hA.1, hA.2⟩]
        have hi := (same_iff _ _).1 hA.2
        have hd := long_decode n1 n2 hbd hA.1
        rw [hw, if_neg, if_pos (by rw [hd]; exact hA.2)]
        have him := imm_bds (Tab.longRow n).2.1 (by rw [(long_facts n n1 n2).2.2]; omega) (hasB (Tab.longRow n).2.2 1) (drawR i)
        have ht := told_bd (Tab.longRow n).2.2
        have e1 : i.rd = (regOf (Tab.longRow n).2.1 68 (drawR i) : Int) + regOf (Tab.longRow n).2.1 66 (drawR i) + toldRd (Tab.longRow n).2.2 := (congrArg Ins.rd hi).symm
        have e2 : i.rs1 = (regOf (Tab.longRow n).2.1 83 (drawR i) : Int) + regOf (Tab.longRow n).2.1 66 (drawR i) + toldRs1 (Tab.longRow n).2.2 := (congrArg Ins.rs1 hi).symm
        have e3 : i.rs2 = (regOf (Tab.longRow n).2.1 84 (drawR i) : Int) := (congrArg Ins.rs2 hi).symm
        have e4 : i.im = immOf (Tab.longRow n).2.1 (hasB (Tab.longRow n).2.2 1) (drawR i) := (congrArg Ins.im hi).symm
        rw [e1, e2, e3, e4]
        omega
      · have hw : rowWord i n = none := by
          unfold rowWord; rw [e n, ed, if_neg (fun h => hA ⟨h.2.1, h.2.2⟩)]
        rw [hw]
        show ((0 : Int), (3 : Int)) = _
        by_cases hbad : i.rd < 0 ∨ i.rs1 < 0 ∨ i.rs2 < 0 ∨ i.im < -1099511627776 ∨ 1099511627776 < i.im
        · rw [if_pos hbad]
        · rw [if_neg hbad, if_neg]
          intro hs
          obtain ⟨k, k0, k1, k2, k3, k4⟩ := long_found ((same_iff _ _).1 hs) (by omega) hln
          obtain rfl : k = n := by omega
          exact hA ⟨k3, (same_iff _ _).2 k4⟩
    · intro k k1 k2 k3
      unfold rowWord
      rw [if_neg]
      intro h
      rw [e k, (long_facts k k1 (by omega)).1] at h
      omega
end Go.Proofs.YthfofjkfbhahoaaGreatDoor
end
section
namespace Go.Proofs.YthfofjkfbhahoaaGreatDoor
open Go.RowKit
set_option linter.unusedSimpArgs false
theorem regR_mod (m : UInt8 → Bool) (s : ByteArray) (W : Nat) (g : Int) : regR m s W g % 2 ^ Pic.cnt m (Pic.rv s.data.toList s.size) = (Pic.val m (Pic.rv s.data.toList s.size) W : Int) := by
  unfold regR
  simp only
  generalize Pic.rv s.data.toList s.size = q
  have hv := Pic.val_lt m q W
  by_cases c0 : Pic.cnt m q = 0
  · rw [if_pos c0, c0]
    rw [c0] at hv
    simp at hv
    rw [hv]; simp [Int.emod_one]
  · rw [if_neg c0]
    by_cases c3 : Pic.cnt m q = 3
    · rw [if_pos c3, c3]
      rw [c3] at hv
      have e8 : (2 : Int) ^ 3 = 8 := by decide
      have n8 : (2 : Nat) ^ 3 = 8 := by decide
      rw [e8]; omega
    · rw [if_neg c3]
      have e : ((2 : Int) ^ Pic.cnt m q) = ((2 ^ Pic.cnt m q : Nat) : Int) := by simp
      rw [e]
      exact Int.emod_eq_of_lt (by omega) (by omega)
def shortOk (n : Nat) : Bool :=
  decide (1 ≤ (Tab.shortRow n).1) && decide ((Tab.shortRow n).1 ≤ 70) && ((Tab.shortRow n).2.1.size == 16) && (shortQ n).all Pic.known && Pic.apart (shortQ n) && (match shortQ n with | x :: y :: _ => x == 48 || y == 48 | _ => false) &&
  (Pic.cnt (· == 83) (shortQ n) == 0 || Pic.cnt (· == 66) (shortQ n) == 0)
theorem shorts_ok : ((List.range 27).all fun n => n == 0 || shortOk n) = true := by decide +kernel
theorem short_facts (n : Nat) (h1 : 1 ≤ n) (h2 : n ≤ 26) : 1 ≤ (Tab.shortRow n).1 ∧ (Tab.shortRow n).1 ≤ 70 ∧ (Tab.shortRow n).2.1.size = 16 ∧ (shortQ n).all Pic.known = true ∧ Pic.apart (shortQ n) = true ∧ (∃ x y q, shortQ n = x :: y :: q ∧ (x = 48 ∨ y = 48)) ∧
    (Pic.cnt (· == 83) (shortQ n) = 0 ∨ Pic.cnt (· == 66) (shortQ n) = 0) := by
  have h := List.all_eq_true.1 shorts_ok n (by simp; omega)
  rw [Bool.or_eq_true, beq_iff_eq] at h
  rcases h with h | h
  · omega
  · simp only [shortOk, Bool.and_eq_true, decide_eq_true_eq, beq_iff_eq, Bool.or_eq_true] at h
    obtain ⟨⟨⟨⟨⟨⟨a, b⟩, c⟩, d⟩, e⟩, f⟩, g⟩ := h
    refine ⟨a, b, c, d, e, ?_, g⟩
    revert f
    match shortQ n with
    | x :: y :: q => intro f; simp only [Bool.or_eq_true, beq_iff_eq] at f; exact ⟨x, y, q, rfl, f⟩
    | [x] => intro f; cases f
    | [] => intro f; cases f
theorem fits_not3 {x y : UInt8} {q : List UInt8} {W : Nat} (h : x = 48 ∨ y = 48) (hf : Pic.fits (x :: y :: q) W = true) : ¬ W % 4 = 3 := by
  simp only [Pic.fits, Bool.and_eq_true] at hf
  rcases h with rfl | rfl
  · have a := hf.1; simp [Pic.okBit] at a; omega
  · have a := hf.2.1; simp [Pic.okBit] at a; omega
theorem short_chk (n : Nat) (h1 : 1 ≤ n) (h2 : n ≤ 26) : chk (Tab.shortRow n) (TabR.half n) 16 = true := by
  have h := List.all_eq_true.1 chkH n (by simp; omega)
  rw [Bool.or_eq_true, beq_iff_eq] at h
  rcases h with h | h
  · omega
  · exact h
/-- what is read off a word of 16 bits is drawn as that word -/
theorem short_draw (n v : Nat) (h1 : 1 ≤ n) (h2 : n ≤ 26) (hv : v < 65536) (hf : rowFits (Tab.shortRow n) v = true) : rowDraw (Tab.shortRow n) (rowIns (Tab.shortRow n) v) = v := by
  obtain ⟨_, _, f3, f4, f5, _, f7⟩ := short_facts n h1 h2
  have hfit := rowFits_fits hf
  have hc := short_chk n h1 h2
  have hrow := (row_eq hc v (by have : (2 : Nat) ^ 16 = 65536 := by decide
                                omega)).1
  simp only [chk, Bool.and_eq_true, beq_iff_eq, decide_eq_true_eq] at hc
  have e := hc.1.1.1.1.1.1.1.1.1.1.2
  have es : (TabR.half n).pic = (Tab.shortRow n).2.1 := by
    generalize (TabR.half n).pic = a at *
    generalize (Tab.shortRow n).2.1 = b at *
    obtain ⟨a⟩ := a
    obtain ⟨b⟩ := b
    simp only at e
    congr 1
    exact (Array.toList_inj.1 e).symm
  unfold rowDraw
  have hq : Pic.rv (Tab.shortRow n).2.1.data.toList (Tab.shortRow n).2.1.size = shortQ n := rfl
  rw [hq] at hfit ⊢
  have hlen : (shortQ n).length = 16 := by unfold shortQ; rw [Pic.rv_length _ _ (by simp), f3]
  refine Pic.draw_read (shortQ n) v _ _ _ _ f4 (by rw [hlen]; have : (2 : Nat) ^ 16 = 65536 := by decide
                                                   omega) hfit ?_ ?_ ?_ ?_
  · rw [hrow]
    have := regR_mod (fun x => x == 68 || x == 66) (Tab.shortRow n).2.1 v (TabR.half n).rd
    rw [hq] at this
    unfold insR
    simp only
    rw [es]
    exact this
  · rw [hrow]
    unfold insR
    simp only
    rw [es]
    have h83 := regR_mod (fun x => x == 83 || x == 66) (Tab.shortRow n).2.1 v (TabR.half n).rs1
    rw [hq] at h83
    rcases f7 with f7 | f7
    · rw [f7, val_zero 83 _ _ f7]; simp [Int.emod_one]
    · obtain ⟨a, b⟩ := val_or 83 66 (shortQ n) v f7
      rw [a, b] at h83
      exact h83
  · rw [hrow]
    unfold insR
    simp only
    rw [es]
    have := regR_mod (fun x => x == 84) (Tab.shortRow n).2.1 v 0
    rw [hq] at this
    exact this
  · intro k hk hl
    have := Pic.imm_bit (shortQ n) (hasB (Tab.shortRow n).2.2 1) v k hk f5 hl
    exact this
/-- the number that one picture's fixed bits lay at the other's letters -/
def fval (c : UInt8) : List UInt8 → List UInt8 → Option Nat
  | x :: p, y :: q => if y == c then (if x == 48 then (fval c p q).map (2 * ·) else if x == 49 then (fval c p q).map (2 * · + 1) else none) else fval c p q
  | _, [] => some 0
  | [], y :: q => if y == c then none else fval c [] q
theorem fval_val (c : UInt8) : ∀ (p q : List UInt8) (W k : Nat), fval c p q = some k → Pic.fits p W = true → Pic.val (· == c) q W = k
  | [], [], _, k, h, _ => by simp [fval] at h; simp [Pic.val, h]
  | _ :: _, [], _, k, h, _ => by simp [fval] at h; simp [Pic.val, h]
  | [], y :: q, W, k, h, hf => by
    simp only [fval] at h
    cases hy : (y == c)
    · rw [hy] at h
      simp only [Bool.false_eq_true, if_false] at h
      simp only [Pic.val, hy, cond_false]
      exact fval_val c [] q (W / 2) k h rfl
    · rw [hy] at h; simp at h
  | x :: p, y :: q, W, k, h, hf => by
    simp only [Pic.fits, Bool.and_eq_true] at hf
    simp only [fval] at h
    cases hy : (y == c)
    · rw [hy] at h
      simp only [Bool.false_eq_true, if_false] at h
      simp only [Pic.val, hy, cond_false]
      exact fval_val c p q (W / 2) k h hf.2
    · rw [hy] at h
      simp only [if_true] at h
      simp only [Pic.val, hy, cond_true]
      by_cases h0 : x = 48
      · subst h0
        simp only [beq_self_eq_true, if_true] at h
        cases hr : fval c p q with
        | none => rw [hr] at h; cases h
        | some j =>
          rw [hr] at h
          have := fval_val c p q (W / 2) j hr hf.2
          have a := hf.1
          simp [Pic.okBit] at a
          simp at h
          omega
      · rw [if_neg (by simpa using h0)] at h
        by_cases h9 : x = 49
        · subst h9
          simp only [beq_self_eq_true, if_true] at h
          cases hr : fval c p q with
          | none => rw [hr] at h; cases h
          | some j =>
            rw [hr] at h
            have := fval_val c p q (W / 2) j hr hf.2
            have a := hf.1
            simp [Pic.okBit] at a
            simp at h
            omega
        · rw [if_neg (by simpa using h9)] at h; cases h
/-- two rows of 16 bits that share no word -/
def pairOk (n m : Nat) : Bool :=
  clash (shortQ n) (shortQ m) ||
  (hasB (Tab.shortRow m).2.2 128 && fval 84 (shortQ n) (shortQ m) == some 0 && Pic.cnt (· == 84) (shortQ m) != 3) ||
  (hasB (Tab.shortRow m).2.2 64 && fval 83 (shortQ n) (shortQ m) == some 0 && Pic.cnt (· == 83) (shortQ m) != 3 && Pic.cnt (· == 66) (shortQ m) == 0 && toldRs1 (Tab.shortRow m).2.2 == 0) ||
  (hasB (Tab.shortRow m).2.2 256 && fval 68 (shortQ n) (shortQ m) == some 2 && Pic.cnt (· == 68) (shortQ m) != 3 && Pic.cnt (· == 66) (shortQ m) == 0 && toldRd (Tab.shortRow m).2.2 == 0)
theorem short_pairs : ((List.range 27).all fun n => (List.range 27).all fun m => n == 0 || decide (m ≤ n) || pairOk n m) = true := by decide +kernel
theorem reg_val {s : ByteArray} {c : UInt8} {W k : Nat} (hv : Pic.val (· == c) (Pic.rv s.data.toList s.size) W = k) (h3 : Pic.cnt (· == c) (Pic.rv s.data.toList s.size) ≠ 3) : regOf s c W = k := by
  unfold regOf; simp only; rw [if_neg h3, hv]
theorem reg_none {s : ByteArray} {c : UInt8} {W : Nat} (h0 : Pic.cnt (· == c) (Pic.rv s.data.toList s.size) = 0) : regOf s c W = 0 := by
  unfold regOf; simp only; rw [if_neg (by omega), val_zero c _ _ h0]
theorem pair_no (n m v : Nat) (h : pairOk n m = true) (hn : rowFits (Tab.shortRow n) v = true) (hm : rowFits (Tab.shortRow m) v = true) : False := by
  have fn := rowFits_fits hn
  have fm := rowFits_fits hm
  unfold rowFits at hm
  simp only [Bool.and_eq_true, Bool.not_eq_true'] at hm
  have hr := hm.2
  unfold rulesOut at hr
  simp only [Bool.or_eq_false_iff] at hr
  obtain ⟨⟨⟨⟨r1, r2⟩, r3⟩, r4⟩, r5⟩ := hr
  simp only [pairOk, Bool.or_eq_true, Bool.and_eq_true, beq_iff_eq, bne_iff_ne, ne_eq] at h
  rcases h with ((h | h) | h) | h
  · exact clash_no _ _ v h fn fm
  · have e := reg_val (fval_val 84 _ _ v 0 h.1.2 fn) h.2
    rw [h.1.1, Bool.and_true, beq_eq_false_iff_ne] at r4
    apply r4
    show (regOf (Tab.shortRow m).2.1 84 v : Int) = 0
    rw [e]; rfl
  · have e := reg_val (fval_val 83 _ _ v 0 h.1.1.1.2 fn) h.1.1.2
    have e2 := reg_none (W := v) h.1.2
    rw [h.1.1.1.1, Bool.and_true, beq_eq_false_iff_ne] at r3
    apply r3
    show (regOf (Tab.shortRow m).2.1 83 v : Int) + regOf (Tab.shortRow m).2.1 66 v + toldRs1 (Tab.shortRow m).2.2 = 0
    rw [e, e2, h.2]; rfl
  · have e := reg_val (fval_val 68 _ _ v 2 h.1.1.1.2 fn) h.1.1.2
    have e2 := reg_none (W := v) h.1.2
    rw [h.1.1.1.1, Bool.and_true, beq_eq_false_iff_ne] at r5
    apply r5
    show (regOf (Tab.shortRow m).2.1 68 v : Int) + regOf (Tab.shortRow m).2.1 66 v + toldRd (Tab.shortRow m).2.2 = 2
    rw [e, e2, h.2]; rfl
theorem short_decode {n v : Nat} (h1 : 1 ≤ n) (h2 : n ≤ 26) (hv : v < 65536) (hf : rowFits (Tab.shortRow n) v = true) : ¬ v % 4 = 3 ∧ (decodeR v).1 = rowIns (Tab.shortRow n) v := by
  obtain ⟨_, _, _, _, _, ⟨x, y, q, hq, hxy⟩, _⟩ := short_facts n h1 h2
  have hfit := rowFits_fits hf
  have h3 : ¬ v % 4 = 3 := fits_not3 (q := q) hxy (by rw [← hq]; exact hfit)
  refine ⟨h3, ?_⟩
  rw [← decode_eq]
  unfold decodeD
  have hsz : sizeOf (v : Int) = 2 := by unfold sizeOf; rw [if_neg (by omega), if_neg (by omega), if_pos (by omega)]
  rw [hsz, if_neg (by decide)]
  have hm : rowMeans 2 v n = some (rowIns (Tab.shortRow n) v) := by
    unfold rowMeans
    rw [show rowAt 2 n = Tab.shortRow n from rfl, if_pos hf]
  have hc : (rowCount 2).toNat = 26 := rfl
  rw [hc, Int.toNat_natCast, scan_at hm 26 1 h1 (by omega) ?_]
  intro k k1 k2
  unfold rowMeans
  rw [if_neg]
  intro hk
  have hcl := List.all_eq_true.1 (List.all_eq_true.1 short_pairs k (by simp; omega)) n (by simp; omega)
  simp only [Bool.or_eq_true, beq_iff_eq, decide_eq_true_eq] at hcl
  rcases hcl with (hcl | hcl) | hcl
  · omega
  · omega
  · exact pair_no k n v hcl hk hf
theorem short_found {v : Nat} {i : Ins} (hv : v < 65536) (h3 : ¬ v % 4 = 3) (h : (decodeR v).1 = i) (hop : 1 ≤ i.op) : ∃ n : Nat, 1 ≤ n ∧ n ≤ 26 ∧ rowFits (Tab.shortRow n) v = true ∧ rowIns (Tab.shortRow n) v = i := by
  rw [← decode_eq] at h
  unfold decodeD at h
  have hsz : sizeOf (v : Int) = 2 := by unfold sizeOf; rw [if_neg (by omega), if_neg (by omega), if_pos (by omega)]
  rw [hsz, if_neg (by decide), Int.toNat_natCast] at h
  cases hs : scan (rowMeans 2 v) 1 (rowCount 2).toNat with
  | none => rw [hs] at h; rw [← h] at hop; simp at hop
  | some j =>
    rw [hs] at h
    simp only at h
    subst h
    obtain ⟨k, k1, k2, k3⟩ := scan_some _ _ hs
    have hc : (rowCount 2).toNat = 26 := rfl
    rw [hc] at k2
    unfold rowMeans at k3
    split at k3
    · next hf => exact ⟨k, k1, by omega, hf, Option.some.inj k3⟩
    · cases k3
theorem rowWord_some {i : Ins} {k v : Nat} (hln : i.ln = 2) (h : rowWord i k = some v) : rowDraw (Tab.shortRow k) i = v ∧ rowFits (Tab.shortRow k) v = true ∧ rowIns (Tab.shortRow k) v = i := by
  unfold rowWord at h
  rw [show rowAt i.ln k = Tab.shortRow k by rw [hln]; rfl] at h
  split at h
  · next hc =>
    have e := Option.some.inj h
    rw [e] at hc
    exact ⟨e, hc.2.1, (same_iff _ _).1 hc.2.2⟩
  · cases h
theorem least_spec {i : Ins} : ∀ (m n : Nat) (st : Option Nat),
    (∀ b, least i st n m = some b → (st = some b ∨ ∃ k, n ≤ k ∧ k < n + m ∧ rowWord i k = some b) ∧ (∀ a, st = some a → b ≤ a) ∧ ∀ k a, n ≤ k → k < n + m → rowWord i k = some a → b ≤ a) ∧
    (least i st n m = none → st = none ∧ ∀ k, n ≤ k → k < n + m → rowWord i k = none)
  | 0, n, st => by
    refine ⟨fun b h => ?_, fun h => ⟨h, fun k a b => by omega⟩⟩
    have h' : st = some b := h
    exact ⟨.inl h', fun a ha => (by rw [h'] at ha; cases ha; exact Nat.le_refl _), fun k a x y => by omega⟩
  | m + 1, n, st => by
    obtain ⟨ih1, ih2⟩ := least_spec (i := i) m (n + 1) (better st (rowWord i n))
    rw [least_step]
    constructor
    · intro b h
      obtain ⟨p1, p2, p3⟩ := ih1 b h
      cases hw : rowWord i n with
      | none =>
        rw [hw] at p1 p2
        simp only [better] at p1 p2
        refine ⟨?_, p2, ?_⟩
        · rcases p1 with p1 | ⟨k, a1, a2, a3⟩
          · exact .inl p1
          · exact .inr ⟨k, by omega, by omega, a3⟩
        · intro k a k1 k2 k3
          by_cases e : k = n
          · subst e; rw [hw] at k3; cases k3
          · exact p3 k a (by omega) (by omega) k3
      | some c =>
        rw [hw] at p1 p2
        cases st with
        | none =>
          simp only [better] at p1 p2
          have hbc := p2 c rfl
          refine ⟨?_, fun a ha => (by cases ha), ?_⟩
          · rcases p1 with p1 | ⟨k, a1, a2, a3⟩
            · exact .inr ⟨n, by omega, by omega, by rw [hw]; exact p1⟩
            · exact .inr ⟨k, by omega, by omega, a3⟩
          · intro k a k1 k2 k3
            by_cases e : k = n
            · subst e; rw [hw] at k3; cases k3; exact hbc
            · exact p3 k a (by omega) (by omega) k3
        | some d =>
          simp only [better] at p1 p2
          by_cases hcd : c < d
          · rw [if_pos hcd] at p1 p2
            have hbc := p2 c rfl
            refine ⟨?_, fun a ha => (by cases ha; omega), ?_⟩
            · rcases p1 with p1 | ⟨k, a1, a2, a3⟩
              · exact .inr ⟨n, by omega, by omega, by rw [hw]; exact p1⟩
              · exact .inr ⟨k, by omega, by omega, a3⟩
            · intro k a k1 k2 k3
              by_cases e : k = n
              · subst e; rw [hw] at k3; cases k3; exact hbc
              · exact p3 k a (by omega) (by omega) k3
          · rw [if_neg hcd] at p1 p2
            have hbd := p2 d rfl
            refine ⟨?_, fun a ha => (by cases ha; exact hbd), ?_⟩
            · rcases p1 with p1 | ⟨k, a1, a2, a3⟩
              · exact .inl p1
              · exact .inr ⟨k, by omega, by omega, a3⟩
            · intro k a k1 k2 k3
              by_cases e : k = n
              · subst e; rw [hw] at k3; cases k3; omega
              · exact p3 k a (by omega) (by omega) k3
    · intro h
      obtain ⟨q1, q2⟩ := ih2 h
      cases hw : rowWord i n with
      | none =>
        rw [hw] at q1
        refine ⟨q1, fun k k1 k2 => ?_⟩
        by_cases e : k = n
        · subst e; exact hw
        · exact q2 k (by omega) (by omega)
      | some c =>
        rw [hw] at q1
        cases st with
        | none => cases q1
        | some d => simp only [better] at q1; split at q1 <;> cases q1
theorem seek_spec {i : Ins} : ∀ (m v : Nat),
    (∀ x, seekR i v m = some x → v ≤ x ∧ x < v + m ∧ (x % 4 ≠ 3 ∧ sameB (decodeR x).1 i = true) ∧ ∀ y, v ≤ y → y < x → ¬ (y % 4 ≠ 3 ∧ sameB (decodeR y).1 i = true)) ∧
    (seekR i v m = none → ∀ y, v ≤ y → y < v + m → ¬ (y % 4 ≠ 3 ∧ sameB (decodeR y).1 i = true))
  | 0, v => ⟨fun x h => (by cases h), fun _ y a b => by omega⟩
  | m + 1, v => by
    obtain ⟨ih1, ih2⟩ := seek_spec (i := i) m (v + 1)
    rw [seek_step]
    by_cases hc : v % 4 ≠ 3 ∧ sameB (decodeR v).1 i = true
    · rw [if_pos hc]
      exact ⟨fun x h => (by cases h; exact ⟨by omega, by omega, hc, fun y a b => by omega⟩), fun h => (by cases h)⟩
    · rw [if_neg hc]
      refine ⟨fun x h => ?_, fun h y a b => ?_⟩
      · obtain ⟨p1, p2, p3, p4⟩ := ih1 x h
        refine ⟨by omega, by omega, p3, fun y a b => ?_⟩
        by_cases e : y = v
        · subst e; exact hc
        · exact p4 y (by omega) b
      · by_cases e : y = v
        · subst e; exact hc
        · exact ih2 h y (by omega) (by omega)
theorem wordsA {i : Ins} (hln : i.ln = 2) (k v : Nat) (k1 : 1 ≤ k) (k2 : k < 27) (hw : rowWord i k = some v) : v < 65536 ∧ (v % 4 ≠ 3 ∧ sameB (decodeR v).1 i = true) ∧ 1 ≤ i.op ∧ i.op ≤ 70 := by
  obtain ⟨e, hf, hi⟩ := rowWord_some hln hw
  obtain ⟨f1, f2, f3, _⟩ := short_facts k k1 (by omega)
  have hv : v < 65536 := by
    rw [← e]
    have h := Pic.draw_lt (Pic.rv (Tab.shortRow k).2.1.data.toList (Tab.shortRow k).2.1.size) i.rd i.rs1 i.rs2 i.im
    rw [Pic.rv_length _ _ (by simp), show 2 ^ (Tab.shortRow k).2.1.size = 65536 by rw [f3]] at h
    exact h
  obtain ⟨g1, g2⟩ := short_decode k1 (by omega) hv hf
  have ho : (rowIns (Tab.shortRow k) v).op = (Tab.shortRow k).1 := rfl
  rw [hi] at ho
  exact ⟨hv, ⟨g1, (same_iff _ _).2 (g2.trans hi)⟩, by omega, by omega⟩
theorem wordsB {i : Ins} (hln : i.ln = 2) (v : Nat) (hv : v < 65536) (hp : v % 4 ≠ 3 ∧ sameB (decodeR v).1 i = true) (hop : 1 ≤ i.op) : ∃ k, 1 ≤ k ∧ k < 27 ∧ rowWord i k = some v := by
  obtain ⟨k, k1, k2, hf, hi⟩ := short_found hv hp.1 ((same_iff _ _).1 hp.2) hop
  have hd := short_draw k v k1 k2 hv hf
  rw [hi] at hd
  refine ⟨k, k1, by omega, ?_⟩
  unfold rowWord
  have hr : rowAt i.ln k = Tab.shortRow k := by rw [hln]; rfl
  have ho : (Tab.shortRow k).1 = i.op := congrArg Ins.op hi
  rw [hr, hd, if_pos ⟨ho, hf, (same_iff _ _).2 hi⟩]
theorem least_seek {i : Ins} (hln : i.ln = 2) (hop : ¬ (i.op < 1 ∨ 70 < i.op)) (M : Nat) (hM : Hid (M = 65536)) : least i none 1 26 = seekR i 0 M := by
  obtain ⟨l1, l2⟩ := least_spec (i := i) 26 1 none
  obtain ⟨s1, s2⟩ := seek_spec (i := i) M 0
  cases hL : least i none 1 26 with
  | none =>
    cases hS : seekR i 0 M with
    | none => rfl
    | some x =>
      exfalso
      obtain ⟨_, x2, x3, _⟩ := s1 x hS
      obtain ⟨k, k1, k2, k3⟩ := wordsB hln x (by have := hM.out; omega) x3 (by omega)
      rw [(l2 hL).2 k k1 (by omega)] at k3; cases k3
  | some b =>
    obtain ⟨p1, _, p3⟩ := l1 b hL
    have hb : b < 65536 ∧ (b % 4 ≠ 3 ∧ sameB (decodeR b).1 i = true) := by
      rcases p1 with h | ⟨k, k1, k2, k3⟩
      · cases h
      · have := wordsA hln k b k1 (by omega) k3; exact ⟨this.1, this.2.1⟩
    cases hS : seekR i 0 M with
    | none => exact absurd hb.2 (s2 hS b (by omega) (by have := hM.out; omega))
    | some x =>
      obtain ⟨_, x2, x3, x4⟩ := s1 x hS
      obtain ⟨k, k1, k2, k3⟩ := wordsB hln x (by have := hM.out; omega) x3 (by omega)
      have hle := p3 k x k1 (by omega) k3
      have hge : x ≤ b := by
        rcases Nat.lt_or_ge b x with h | h
        · exact absurd hb.2 (x4 b (by omega) h)
        · exact h
      have : b = x := by omega
      rw [this]
/-- P4, words of 16 bits -/
theorem encode_eq2 (i : Ins) (hln : i.ln = 2) : encodeD i = encodeR i := by
  unfold encodeD encodeR
  rw [hln, show (rowCount 2).toNat = 26 from rfl]
  by_cases hop : i.op < 1 ∨ 70 < i.op
  · rw [if_pos hop]
    cases hL : least i none 1 26 with
    | none => rfl
    | some b =>
      exfalso
      rcases ((least_spec (i := i) 26 1 none).1 b hL).1 with h | ⟨k, k1, k2, k3⟩
      · cases h
      · have := (wordsA hln k b k1 (by omega) k3).2.2; omega
  · rw [if_neg hop, if_neg (by decide), if_pos rfl, least_seek hln hop 65536 rfl]
    generalize seekR i 0 65536 = st
    cases st <;> rfl
/-- P4: the project's Encode and the document's are one -/
theorem encode_eq (i : Ins) : encodeD i = encodeR i := by
  by_cases h4 : i.ln = 4
  · exact encode_eq4 i h4
  · by_cases h2 : i.ln = 2
    · exact encode_eq2 i h2
    · unfold encodeD encodeR
      have hc : (rowCount i.ln).toNat = 0 := by
        unfold rowCount
        rw [beq_eq_false_iff_ne.2 h4, beq_eq_false_iff_ne.2 h2]; rfl
      rw [hc]
      show ((0 : Int), (3 : Int)) = _
      by_cases hop : i.op < 1 ∨ 70 < i.op
      · rw [if_pos hop]
      · rw [if_neg hop, if_neg h4, if_neg h2]
end Go.Proofs.YthfofjkfbhahoaaGreatDoor
end
