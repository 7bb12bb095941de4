import Derived.Test.YthfofjkfbhahoaaGreatDoorXZ
import Derived.Test.YthfofjkfbhahoaaGreatDoorXT
import Derived.Test.YthfofjkfbhahoaaGreatDoorXA
section
namespace Go.Proofs.YthfofjkfbhahoaaGreatDoor
open Go.RowKit
set_option linter.unusedSimpArgs false
theorem Ex.set0 {w : World} {b : Nat} {N G : ByteArray} {i : Ins} (h : Ex w b N i G) (N' : ByteArray) : Ex (w.setCell ⟨b, 0, none⟩ (.string N')) b N' i G := by
  have h0 := h.c0
  have h1 := h.c1
  have h2 := h.c2
  have h3 := h.c3
  have h4 := h.c4
  have h5 := h.c5
  have h6 := h.c6
  have h7 := h.c7
  have h8 := h.c8
  have h9 := h.c9
  have hf := h.fro
  have hl := h.lt
  refine ⟨?_, ?_, ?_, ?_, ?_, ?_, ?_, ?_, ?_, ?_, ?_, ?_⟩ <;> simp [go_sem, h0, h1, h2, h3, h4, h5, h6, h7, h8, h9, hf, hl]
theorem Ex.set4 {w : World} {b : Nat} {N G : ByteArray} (h : Ex w b N ⟨0, 0, 0, 0, 0, 0⟩ G) (op sz : Int) : Ex ((((w.setCell ⟨b, 1, none⟩ (.int .i64 op)).setCell ⟨b, 9, none⟩ (.int .i64 sz)).setCell ⟨b, 2, none⟩ (.int .i64 op)).setCell ⟨b, 7, none⟩ (.int .i64 sz)) b N ⟨op, 0, 0, 0, 0, sz⟩ G := by
  have h0 := h.c0
  have h1 := h.c1
  have h2 := h.c2
  have h3 := h.c3
  have h4 := h.c4
  have h5 := h.c5
  have h6 := h.c6
  have h7 := h.c7
  have h8 := h.c8
  have h9 := h.c9
  have hf := h.fro
  have hl := h.lt
  refine ⟨?_, ?_, ?_, ?_, ?_, ?_, ?_, ?_, ?_, ?_, ?_, ?_⟩ <;> simp [go_sem, h0, h1, h2, h3, h4, h5, h6, h7, h8, h9, hf, hl]
theorem Ex.set_ne {w : World} {b c f : Nat} {v : Value} {N G : ByteArray} {i : Ins} (h : Ex w b N i G) (hbc : b ≠ c) : Ex (w.setCell ⟨c, f, none⟩ v) b N i G := by
  have h0 := h.c0
  have h1 := h.c1
  have h2 := h.c2
  have h3 := h.c3
  have h4 := h.c4
  have h5 := h.c5
  have h6 := h.c6
  have h7 := h.c7
  have h8 := h.c8
  have h9 := h.c9
  have hf := h.fro
  have hl := h.lt
  have hcb : ¬ c = b := fun e => hbc e.symm
  refine ⟨?_, ?_, ?_, ?_, ?_, ?_, ?_, ?_, ?_, ?_, ?_, ?_⟩ <;> simp [go_sem, h0, h1, h2, h3, h4, h5, h6, h7, h8, h9, hf, hl, hbc, hcb]
/-- what the document's word asks of a line -/
structure Lok (l : Ln) : Prop where
  way : (l.i.op = 0 ∧ l.i.ln = 0 ∧ l.tg = []) ∨ (1 ≤ l.i.op ∧ l.i.op ≤ 70 ∧ (l.i.ln = 2 ∨ l.i.ln = 4)) ∨ (l.i.op = 71 ∧ l.i.ln = 4 ∧ l.tg = []) ∨ (l.i.op = 72 ∧ l.i.ln = 2 ∧ l.tg = [])
  b0 : l.i.rd ≤ 9223372036854775807
  b1 : l.i.rs1 ≤ 9223372036854775807
  b2 : l.i.rs2 ≤ 9223372036854775807
def Bd (i : Ins) : Prop := i.rd ≤ 9223372036854775807 ∧ i.rs1 ≤ 9223372036854775807 ∧ i.rs2 ≤ 9223372036854775807
theorem digs_lt (base : Nat) (hb : 0 < base) : ∀ (l : List UInt8) (acc v : Nat), Byt.digs base acc l = some v → v < (acc + 1) * base ^ l.length
  | [], acc, v, h => by
    simp only [Byt.digs, Option.some.injEq] at h
    simp; omega
  | c :: l, acc, v, h => by
    simp only [Byt.digs] at h
    split at h
    · simp at h
    · next hc =>
      have ih := digs_lt base hb l _ v h
      have h1 : acc * base + Byt.hexv c + 1 ≤ (acc + 1) * base := by rw [Nat.add_mul]; omega
      rw [List.length_cons, Nat.pow_succ, Nat.mul_comm (base ^ l.length) base, ← Nat.mul_assoc]
      exact Nat.lt_of_lt_of_le ih (Nat.mul_le_mul_right _ h1)
theorem rdig_lt (base most v : Nat) (hb : 0 < base) (l : List UInt8) (h : Byt.rdig base most l = some v) : v < base ^ most := by
  unfold Byt.rdig at h
  split at h
  · simp at h
  · next hl =>
    have := digs_lt base hb l 0 v h
    rw [Nat.zero_add, Nat.one_mul] at this
    exact Nat.lt_of_lt_of_le this (Nat.pow_le_pow_right hb (by omega))
theorem plain_lt (l : List UInt8) (v : Nat) (h : Byt.plain l = some v) : v < 10000000000 := by
  unfold Byt.plain at h
  split at h
  · have := rdig_lt 16 8 v (by decide) _ h
    have e : 16 ^ 8 = 4294967296 := by decide
    omega
  · have := rdig_lt 10 10 v (by decide) _ h
    have e : 10 ^ 10 = 10000000000 := by decide
    omega
theorem plain_getD (l : List UInt8) : (Byt.plain l).getD 0 < 10000000000 := by
  cases h : Byt.plain l with
  | none => simp
  | some v => exact plain_lt l v h
theorem number_le (l : List UInt8) : (Byt.number l).1 ≤ 10000000000 := by
  unfold Byt.number
  split
  · simp only; omega
  · simp only
    have := plain_getD l; omega
theorem regFrom_lt (t : List UInt8) : ∀ f n r, Byt.regFrom t f n = some r → r < n + f
  | 0, n, r, h => by simp [Byt.regFrom] at h
  | f + 1, n, r, h => by
    unfold Byt.regFrom at h
    split at h
    · simp only [Option.some.injEq] at h; omega
    · have := regFrom_lt t f (n + 1) r h; omega
theorem reg_lt (t : List UInt8) (r : Nat) (h : Byt.reg t = some r) : r < 32 := by
  have := regFrom_lt t 32 0 r h; omega
theorem opd_bd {i j : Ins} {g h : List UInt8} {c : Nat} {T : List (List UInt8)} (e : Byt.opdP i g c T = some (j, h)) (hi : Bd i) : Bd j := by
  have hi' := hi
  obtain ⟨h0, h1, h2⟩ := hi
  unfold Byt.opdP at e
  split at e
  · cases hr : Byt.opdR i c (T[0]?.getD []) with
    | none => rw [hr] at e; simp at e
    | some x =>
      rw [hr] at e
      simp only [Option.map_some, Option.some.injEq, Prod.mk.injEq] at e
      rw [← e.1]
      unfold Byt.opdR at hr
      split at hr
      · simp at hr
      · next r hrr =>
        have hr32 := reg_lt _ r hrr
        simp only [Option.some.injEq] at hr
        rw [← hr]
        split
        · exact ⟨by show (r : Int) ≤ _; omega, h1, h2⟩
        · split
          · exact ⟨h0, by show (r : Int) ≤ _; omega, h2⟩
          · exact ⟨h0, h1, by show (r : Int) ≤ _; omega⟩
  · split at e
    · cases hr : Byt.opdM i (T[0]?.getD []) (T[1]?.getD []) (T[2]?.getD []) (T[3]?.getD []) with
      | none => rw [hr] at e; simp at e
      | some x =>
        rw [hr] at e
        simp only [Option.map_some, Option.some.injEq, Prod.mk.injEq] at e
        rw [← e.1]
        unfold Byt.opdM at hr
        split at hr
        · split at hr
          · simp at hr
          · next r hrr =>
            have hr32 := reg_lt _ r hrr
            simp only [Option.some.injEq] at hr
            rw [← hr]; exact ⟨h0, by show (r : Int) ≤ _; omega, h2⟩
        · simp at hr
    · split at e
      · simp only [Option.some.injEq, Prod.mk.injEq] at e
        rw [← e.1]; exact hi'
      · cases hr : Byt.opdN i c (T[0]?.getD []) with
        | none => rw [hr] at e; simp at e
        | some x =>
          rw [hr] at e
          simp only [Option.map_some, Option.some.injEq, Prod.mk.injEq] at e
          rw [← e.1]
          unfold Byt.opdN at hr
          split at hr
          · simp only [Option.some.injEq] at hr
            rw [← hr]
            have hn := number_le (T[0]?.getD [])
            split
            · exact ⟨h0, by show (Byt.number _).1 ≤ _; omega, h2⟩
            · exact hi'
          · simp at hr
theorem ops_bd : ∀ (cs : List Nat) (m : Bool) (i : Ins) (g : List UInt8) (T : List (List UInt8)) (j : Ins) (h : List UInt8), Byt.opsP cs m i g T = some (j, h) → Bd i → Bd j
  | [], m, i, g, T, j, h, e, hi => by
    simp only [Byt.opsP] at e
    split at e
    · simp only [Option.some.injEq, Prod.mk.injEq] at e; rw [← e.1]; exact hi
    · simp at e
  | c :: cs, m, i, g, T, j, h, e, hi => by
    simp only [Byt.opsP] at e
    split at e
    · simp at e
    · split at e
      · simp at e
      · next x y he => exact ops_bd cs true x y _ j h e (opd_bd he hi)
theorem ops_tg : ∀ (cs : List Nat), (∀ c ∈ cs, ¬ c = 106) → ∀ (m : Bool) (i : Ins) (g : List UInt8) (T : List (List UInt8)) (j : Ins) (h : List UInt8), Byt.opsP cs m i g T = some (j, h) → h = g
  | [], _, m, i, g, T, j, h, e => by
    simp only [Byt.opsP] at e
    split at e
    · simp only [Option.some.injEq, Prod.mk.injEq] at e; exact e.2.symm
    · simp at e
  | c :: cs, hc, m, i, g, T, j, h, e => by
    simp only [Byt.opsP] at e
    split at e
    · simp at e
    · split at e
      · simp at e
      · next x y he =>
        have h1 := ops_tg cs (fun c' h' => hc c' (List.mem_cons_of_mem _ h')) true x y _ j h e
        have h106 := hc c (by simp)
        rw [h1]
        obtain ⟨D, hD⟩ : ∃ D, D = T.drop (if m then 1 else 0) := ⟨_, rfl⟩
        rw [← hD] at he
        clear hD e h1
        unfold Byt.opdP at he
        split at he
        · cases hr : Byt.opdR i c (D[0]?.getD []) with
          | none => rw [hr] at he; simp at he
          | some z => rw [hr] at he; simp only [Option.map_some, Option.some.injEq, Prod.mk.injEq] at he; exact he.2.symm
        · split at he
          · cases hr : Byt.opdM i (D[0]?.getD []) (D[1]?.getD []) (D[2]?.getD []) (D[3]?.getD []) with
            | none => rw [hr] at he; simp at he
            | some z => rw [hr] at he; simp only [Option.map_some, Option.some.injEq, Prod.mk.injEq] at he; exact he.2.symm
          · split at he
            · next hn => exact absurd hn.1 h106
            · cases hr : Byt.opdN i c (D[0]?.getD []) with
              | none => rw [hr] at he; simp at he
              | some z => rw [hr] at he; simp only [Option.map_some, Option.some.injEq, Prod.mk.injEq] at he; exact he.2.symm
theorem wrdFrom_way (t : List UInt8) : ∀ f op, 1 ≤ op → op + f ≤ 71 → Byt.wrdFrom t f op = (0, 0) ∨ (1 ≤ (Byt.wrdFrom t f op).1 ∧ (Byt.wrdFrom t f op).1 ≤ 70 ∧ ((Byt.wrdFrom t f op).2 = 2 ∨ (Byt.wrdFrom t f op).2 = 4))
  | 0, op, _, _ => .inl rfl
  | f + 1, op, h, h2 => by
    have ih := wrdFrom_way t f (op + 1) (by omega) (by omega)
    unfold Byt.wrdFrom
    split
    · right; exact ⟨h, by show op ≤ 70; omega, .inr rfl⟩
    · split
      · right; exact ⟨h, by show op ≤ 70; omega, .inl rfl⟩
      · exact ih
theorem wrd_way (t : List UInt8) : Byt.wrd t = (0, 0) ∨ (1 ≤ (Byt.wrd t).1 ∧ (Byt.wrd t).1 ≤ 70 ∧ ((Byt.wrd t).2 = 2 ∨ (Byt.wrd t).2 = 4)) ∨ Byt.wrd t = (71, 4) ∨ Byt.wrd t = (72, 2) := by
  unfold Byt.wrd
  split
  · right; right; left; rfl
  · split
    · right; right; right; rfl
    · rcases wrdFrom_way t 70 1 (Nat.le_refl _) (by omega) with h | h
      · left; exact h
      · right; left; exact h
theorem shp_data (op : Nat) (h : op = 71 ∨ op = 72) : ∀ c ∈ Byt.shp op, ¬ c = 106 := by
  rcases h with rfl | rfl <;> decide
theorem lok0 : Lok ln0 := ⟨.inl ⟨rfl, rfl, rfl⟩, by decide, by decide, by decide⟩
theorem readR_lok (nm : List UInt8) (T : List (List UInt8)) : Lok (Byt.readR nm T).2 := by
  cases T with
  | nil => exact ⟨.inl ⟨rfl, rfl, rfl⟩, by show (0 : Int) ≤ _; decide, by show (0 : Int) ≤ _; decide, by show (0 : Int) ≤ _; decide⟩
  | cons t LT =>
    by_cases hz : (Byt.wrd t).2 = 0
    · rw [readR_no nm t LT hz]; exact lok0
    · cases ho : Byt.opsP (Byt.shp (Byt.wrd t).1) false ⟨(Byt.wrd t).1, 0, 0, 0, 0, (Byt.wrd t).2⟩ [] LT with
      | none => rw [readR_bad nm t LT hz ho]; exact lok0
      | some r =>
        obtain ⟨i, g⟩ := r
        rw [readR_yes nm t LT hz ho]
        have h1 := ops_ln _ _ _ _ _ _ _ ho
        have h2 := wrd_way t
        have h3 := ops_bd _ _ _ _ _ _ _ ho ⟨by show (0 : Int) ≤ _; decide, by show (0 : Int) ≤ _; decide, by show (0 : Int) ≤ _; decide⟩
        refine ⟨?_, h3.1, h3.2.1, h3.2.2⟩
        simp only at h1 ⊢
        rcases h2 with h2 | h2 | h2 | h2
        · rw [h2] at hz; exact absurd rfl hz
        · right; left; omega
        · have hg := ops_tg _ (shp_data (Byt.wrd t).1 (.inl (by rw [h2]))) _ _ _ _ _ _ ho
          rw [h2] at h1
          right; right; left; exact ⟨h1.2, h1.1, hg⟩
        · have hg := ops_tg _ (shp_data (Byt.wrd t).1 (.inr (by rw [h2]))) _ _ _ _ _ _ ho
          rw [h2] at h1
          right; right; right; exact ⟨h1.2, h1.1, hg⟩
theorem readLn_lok (T : List (List UInt8)) (E : List Ln) : Lok (Byt.readLn T E).2 := by
  unfold Byt.readLn
  split
  · split
    · split
      · exact lok0
      · exact readR_lok _ _
    · exact lok0
  · exact readR_lok _ _
/-- a line's bytes, its error: what word hands back -/
def Byt.stp (L : List Ln) (l : Ln) (n : Nat) : List UInt8 × Int := if l.tg ≠ [] ∧ Byt.findN L l.tg = L.length then ([], 8) else if (Byt.wordD (Byt.aimed L l n)).2 = 0 then (Byt.leB (Byt.wordD (Byt.aimed L l n)).1 l.i.ln.toNat, 0) else ([], (Byt.wordD (Byt.aimed L l n)).2)
theorem lay_stp {L : List Ln} {k : Nat} {m : List UInt8} (h : k < L.length) : Byt.lay L (L.drop k) k m = if (Byt.stp L L[k] m.length).2 = 0 then Byt.lay L (L.drop (k + 1)) (k + 1) (m ++ (Byt.stp L L[k] m.length).1) else ([], (Byt.stp L L[k] m.length).2, k + 1) := by
  rw [lay_step h]
  unfold Byt.stp
  by_cases c : L[k].tg ≠ [] ∧ Byt.findN L L[k].tg = L.length
  · rw [if_pos c, if_pos c, if_neg (show ¬ (8 : Int) = 0 by decide)]
  · rw [if_neg c, if_neg c]
    by_cases d : (Byt.wordD (Byt.aimed L L[k] m.length)).2 = 0
    · rw [if_pos d, if_pos d, if_pos rfl]
    · rw [if_neg d, if_neg d, if_neg d]
theorem leB_length (v : Int) (n : Nat) : (Byt.leB v n).length = n := by
  unfold Byt.leB
  rw [Array.length_toList]
  show (strOfNums (leL v n)).size = n
  rw [strNums_size, leL_length]
theorem stp_length {L : List Ln} {l : Ln} {n : Nat} (h : (Byt.stp L l n).2 = 0) : (Byt.stp L l n).1.length = l.i.ln.toNat := by
  unfold Byt.stp at h ⊢
  by_cases c : l.tg ≠ [] ∧ Byt.findN L l.tg = L.length
  · rw [if_pos c] at h; exact absurd h (by decide)
  · rw [if_neg c] at h ⊢
    by_cases d : (Byt.wordD (Byt.aimed L l n)).2 = 0
    · rw [if_pos d]; exact leB_length _ _
    · rw [if_neg d] at h; exact absurd h d
theorem stp_zero {L : List Ln} {l : Ln} (n : Nat) (h1 : l.i.ln = 0) (h2 : l.tg = []) : Byt.stp L l n = ([], 0) := by
  unfold Byt.stp Byt.aimed
  rw [if_neg (fun h => h.1 h2), if_pos h2]
  unfold Byt.wordD
  rw [if_pos h1, if_pos rfl, h1]; rfl
theorem stp_data {L : List Ln} {l : Ln} (n : Nat) (lo hi : Int) (z : Nat) (h : l.i.op = 71 ∧ z = 4 ∧ lo = -2147483648 ∧ hi = 4294967295 ∨ l.i.op = 72 ∧ z = 2 ∧ lo = -32768 ∧ hi = 65535) (hz : l.i.ln = z) (h2 : l.tg = []) : Byt.stp L l n = if l.i.im < lo ∨ hi < l.i.im then ([], 7) else (Byt.leB l.i.im z, 0) := by
  unfold Byt.stp Byt.aimed
  rw [if_neg (fun h => h.1 h2), if_pos h2]
  have hw : Byt.wordD l.i = Byt.dataD l.i.im lo hi := by
    unfold Byt.wordD
    rcases h with ⟨ho, hz', hlo, hhi⟩ | ⟨ho, hz', hlo, hhi⟩
    · rw [if_neg (by omega), if_pos ho, hlo, hhi]
    · rw [if_neg (by omega), if_neg (by omega), if_pos ho, hlo, hhi]
  rw [hw, hz]
  unfold Byt.dataD
  by_cases c : l.i.im < lo ∨ hi < l.i.im
  · rw [if_pos c, if_pos c]; rfl
  · rw [if_neg c, if_neg c, if_pos rfl]; rfl
theorem stp_none {L : List Ln} {l : Ln} (n : Nat) (h1 : ¬ l.tg = []) (h2 : Byt.findN L l.tg = L.length) : Byt.stp L l n = ([], 8) := by
  unfold Byt.stp; rw [if_pos ⟨h1, h2⟩]
theorem stp_ins {L : List Ln} {l : Ln} (n : Nat) (j : Ins) (hj : Byt.aimed L l n = j) (h1 : 1 ≤ l.i.op) (h70 : l.i.op ≤ 70) (hln : ¬ l.i.ln = 0) (hjo : j.op = l.i.op) (hjl : j.ln = l.i.ln) (h2 : ¬ (l.tg ≠ [] ∧ Byt.findN L l.tg = L.length)) : Byt.stp L l n = if (encodeR j).2 = 0 then (Byt.leB (encodeR j).1 l.i.ln.toNat, 0) else ([], 7) := by
  unfold Byt.stp
  rw [if_neg h2, hj]
  have hw : Byt.wordD j = if (encodeR j).2 = 0 then ((encodeR j).1, 0) else (0, 7) := by
    unfold Byt.wordD
    rw [if_neg (by omega), if_neg (by omega), if_neg (by omega), encode_eq j]
  rw [hw]
  by_cases c : (encodeR j).2 = 0
  · rw [if_pos c, if_pos c, if_pos rfl]
  · rw [if_neg c, if_neg c]; rfl
end Go.Proofs.YthfofjkfbhahoaaGreatDoor
end
section
namespace Go.Proofs.YthfofjkfbhahoaaGreatDoor
open Go.RowKit
set_option linter.unusedSimpArgs false
theorem strV_leB (v : Int) (n : Nat) : Byt.strV (Byt.leB v n) = .string (strOfNums (leL v n)) := by
  unfold Byt.strV Byt.leB; rw [mk_list]
theorem leL_str (v : Int) (n : Nat) (hn : n ≤ 8) (w : World) : Calls Tryz.prog 80 #[.int .i64 v, .int .i64 n] w fun e w' => e = .returned (Byt.strV (Byt.leB v n)) ∧ Below w.heap.size w w' := by
  rw [strV_leB]; exact u_Le v n hn w
theorem place_nn (L : List Ln) (k : Nat) (h : Tidy L) : ((Byt.place L k).toNat : Int) = Byt.place L k := by
  have := place_bd L k h; omega
set_option maxHeartbeats 8000000 in
theorem u_word_zero (p : Option Addr) (cap : Nat) (L : List Ln) (_hL : L.length ≤ 5000) (k : Nat) (hk : k < L.length) (nm tg : List UInt8) (op rd rs1 rs2 im : Int) (z : Nat) (hl : Hid (⟨nm, ⟨op, rd, rs1, rs2, im, z⟩, tg⟩ = L[k])) (hop : op = 0) (hz : z = 0) (htg : tg = []) (w : World) (hw : Hid (ItsAt w p L)) (hp : Hid (∀ a, p = some a → a.block < w.heap.size)) :
    Calls Tryz.prog 122 #[.slice p L.length cap, .int .i64 k] w fun e w' => e = .returned (.tuple #[Byt.strV (Byt.stp L ⟨nm, ⟨op, rd, rs1, rs2, im, z⟩, tg⟩ (Byt.place L k).toNat).1, .int .i64 (Byt.stp L ⟨nm, ⟨op, rd, rs1, rs2, im, z⟩, tg⟩ (Byt.place L k).toNat).2]) ∧ Below w.heap.size w w' := by
  obtain ⟨T, hT⟩ : ∃ T, T = Byt.stp L ⟨nm, ⟨op, rd, rs1, rs2, im, z⟩, tg⟩ (Byt.place L k).toNat := ⟨_, rfl⟩
  rw [← hT]
  rcases hw.out with h0 | ⟨b, rfl, hcx⟩
  · exact absurd hk (by rw [h0]; simp)
  have hcx := hcx k hk
  have hbl : b < w.heap.size := hp.out _ rfl
  rw [← hl.out] at hcx
  subst hop hz
  have HT : Hid (T = ([], 0)) := by
    show T = _
    rw [hT]; exact stp_zero _ rfl htg
  clear hT
  have c0 := hcx.c0
  have c1 := hcx.c1
  have c2 := hcx.c2
  have c3 := hcx.c3
  have c4 := hcx.c4
  have c5 := hcx.c5
  have c6 := hcx.c6
  have c7 := hcx.c7
  have c8 := hcx.c8
  have c9 := hcx.c9
  simp only at c0 c1 c2 c3 c4 c5 c6 c7 c8 c9
  obtain ⟨NM, hNM⟩ : ∃ x : ByteArray, x = ⟨nm.toArray⟩ := ⟨_, rfl⟩
  obtain ⟨TG, hTG⟩ : ∃ x : ByteArray, x = ⟨tg.toArray⟩ := ⟨_, rfl⟩
  rw [← hNM] at c0
  rw [← hTG] at c8
  have hTl : TG.data.toList = tg := by rw [hTG]
  have q0 : (TG.toList == []) = decide (TG.data.toList = []) := eq_lit TG []
  rw [hTl] at q0
  have HTG := hide1 hTl
  clear hNM hTG hTl hcx
  go_enter Tryz.func122, Tryz.ntmps122
  go_wp2_with fail
  go_ret2
  exact ⟨by rw [HT.out]; rfl, (Below.refl _ _).alloc (Nat.le_refl _) _⟩
set_option maxHeartbeats 8000000 in
theorem u_word_data_w (p : Option Addr) (cap : Nat) (L : List Ln) (_hL : L.length ≤ 5000) (k : Nat) (hk : k < L.length) (nm tg : List UInt8) (op rd rs1 rs2 im : Int) (z : Nat) (hl : Hid (⟨nm, ⟨op, rd, rs1, rs2, im, z⟩, tg⟩ = L[k])) (hop : op = 71) (hz : z = 4) (htg : tg = []) (w : World) (hw : Hid (ItsAt w p L)) (hp : Hid (∀ a, p = some a → a.block < w.heap.size)) :
    Calls Tryz.prog 122 #[.slice p L.length cap, .int .i64 k] w fun e w' => e = .returned (.tuple #[Byt.strV (Byt.stp L ⟨nm, ⟨op, rd, rs1, rs2, im, z⟩, tg⟩ (Byt.place L k).toNat).1, .int .i64 (Byt.stp L ⟨nm, ⟨op, rd, rs1, rs2, im, z⟩, tg⟩ (Byt.place L k).toNat).2]) ∧ Below w.heap.size w w' := by
  obtain ⟨T, hT⟩ : ∃ T, T = Byt.stp L ⟨nm, ⟨op, rd, rs1, rs2, im, z⟩, tg⟩ (Byt.place L k).toNat := ⟨_, rfl⟩
  rw [← hT]
  rcases hw.out with h0 | ⟨b, rfl, hcx⟩
  · exact absurd hk (by rw [h0]; simp)
  have hcx := hcx k hk
  have hbl : b < w.heap.size := hp.out _ rfl
  rw [← hl.out] at hcx
  subst hop hz
  have hstp := stp_data (L := L) (l := ⟨nm, ⟨71, rd, rs1, rs2, im, (4 : Nat)⟩, tg⟩) (Byt.place L k).toNat (-2147483648) 4294967295 4 (.inl ⟨rfl, rfl, rfl, rfl⟩) rfl htg
  rw [← hT] at hstp
  simp only at hstp
  have c0 := hcx.c0
  have c1 := hcx.c1
  have c2 := hcx.c2
  have c3 := hcx.c3
  have c4 := hcx.c4
  have c5 := hcx.c5
  have c6 := hcx.c6
  have c7 := hcx.c7
  have c8 := hcx.c8
  have c9 := hcx.c9
  simp only at c0 c1 c2 c3 c4 c5 c6 c7 c8 c9
  obtain ⟨NM, hNM⟩ : ∃ x : ByteArray, x = ⟨nm.toArray⟩ := ⟨_, rfl⟩
  obtain ⟨TG, hTG⟩ : ∃ x : ByteArray, x = ⟨tg.toArray⟩ := ⟨_, rfl⟩
  rw [← hNM] at c0
  rw [← hTG] at c8
  have hTl : TG.data.toList = tg := by rw [hTG]
  have q0 : (TG.toList == []) = decide (TG.data.toList = []) := eq_lit TG []
  rw [hTl] at q0
  have HTG := hide1 hTl
  clear hNM hTG hTl hcx
  have hbw : ∀ o, Below w.heap.size w (w.alloc o) := fun o => (Below.refl _ _).alloc (Nat.le_refl _) _
  have HBW := hide1 hbw
  clear hbw hT
  have hle := fun W => leL_str im 4 (by omega) W
  have HLE := hide1 hle
  clear hle
  by_cases ch : 4294967295 < im
  · have HT : Hid (T = ([], 7)) := by
      show T = _
      rw [hstp, if_pos (.inr ch)]
    have e1 : decide (4294967296 ≤ im) = true := by simp; omega
    clear hstp
    go_enter Tryz.func122, Tryz.ntmps122
    go_wp2_with fail
    go_ret2
    exact ⟨by rw [HT.out]; rfl, HBW.out _⟩
  · have e1 : decide (4294967296 ≤ im) = false := by simp; omega
    by_cases cl : im < -2147483648
    · have HT : Hid (T = ([], 7)) := by
        show T = _
        rw [hstp, if_pos (.inl cl)]
      have e2 : decide (im < -2147483648) = true := by simp; omega
      clear hstp
      go_enter Tryz.func122, Tryz.ntmps122
      go_wp2_with fail
      go_ret2
      exact ⟨by rw [HT.out]; rfl, HBW.out _⟩
    · have HT : Hid (T = (Byt.leB im 4, 0)) := by
        show T = _
        rw [hstp, if_neg (by omega)]
      have e2 : decide (im < -2147483648) = false := by simp; omega
      clear hstp
      go_enter Tryz.func122, Tryz.ntmps122
      go_wp2_with fail
      refine (HLE.out _).mono ?_
      rintro e w1 ⟨rfl, hb1⟩
      unfold Byt.strV
      go_wp2_with fail
      go_ret2
      exact ⟨by rw [HT.out]; rfl, (HBW.out _).trans (hb1.mono (HBW.out _).size)⟩
set_option maxHeartbeats 8000000 in
theorem u_word_data_h (p : Option Addr) (cap : Nat) (L : List Ln) (_hL : L.length ≤ 5000) (k : Nat) (hk : k < L.length) (nm tg : List UInt8) (op rd rs1 rs2 im : Int) (z : Nat) (hl : Hid (⟨nm, ⟨op, rd, rs1, rs2, im, z⟩, tg⟩ = L[k])) (hop : op = 72) (hz : z = 2) (htg : tg = []) (w : World) (hw : Hid (ItsAt w p L)) (hp : Hid (∀ a, p = some a → a.block < w.heap.size)) :
    Calls Tryz.prog 122 #[.slice p L.length cap, .int .i64 k] w fun e w' => e = .returned (.tuple #[Byt.strV (Byt.stp L ⟨nm, ⟨op, rd, rs1, rs2, im, z⟩, tg⟩ (Byt.place L k).toNat).1, .int .i64 (Byt.stp L ⟨nm, ⟨op, rd, rs1, rs2, im, z⟩, tg⟩ (Byt.place L k).toNat).2]) ∧ Below w.heap.size w w' := by
  obtain ⟨T, hT⟩ : ∃ T, T = Byt.stp L ⟨nm, ⟨op, rd, rs1, rs2, im, z⟩, tg⟩ (Byt.place L k).toNat := ⟨_, rfl⟩
  rw [← hT]
  rcases hw.out with h0 | ⟨b, rfl, hcx⟩
  · exact absurd hk (by rw [h0]; simp)
  have hcx := hcx k hk
  have hbl : b < w.heap.size := hp.out _ rfl
  rw [← hl.out] at hcx
  subst hop hz
  have hstp := stp_data (L := L) (l := ⟨nm, ⟨72, rd, rs1, rs2, im, (2 : Nat)⟩, tg⟩) (Byt.place L k).toNat (-32768) 65535 2 (.inr ⟨rfl, rfl, rfl, rfl⟩) rfl htg
  rw [← hT] at hstp
  simp only at hstp
  have c0 := hcx.c0
  have c1 := hcx.c1
  have c2 := hcx.c2
  have c3 := hcx.c3
  have c4 := hcx.c4
  have c5 := hcx.c5
  have c6 := hcx.c6
  have c7 := hcx.c7
  have c8 := hcx.c8
  have c9 := hcx.c9
  simp only at c0 c1 c2 c3 c4 c5 c6 c7 c8 c9
  obtain ⟨NM, hNM⟩ : ∃ x : ByteArray, x = ⟨nm.toArray⟩ := ⟨_, rfl⟩
  obtain ⟨TG, hTG⟩ : ∃ x : ByteArray, x = ⟨tg.toArray⟩ := ⟨_, rfl⟩
  rw [← hNM] at c0
  rw [← hTG] at c8
  have hTl : TG.data.toList = tg := by rw [hTG]
  have q0 : (TG.toList == []) = decide (TG.data.toList = []) := eq_lit TG []
  rw [hTl] at q0
  have HTG := hide1 hTl
  clear hNM hTG hTl hcx
  have hbw : ∀ o, Below w.heap.size w (w.alloc o) := fun o => (Below.refl _ _).alloc (Nat.le_refl _) _
  have HBW := hide1 hbw
  clear hbw hT
  have hle := fun W => leL_str im 2 (by omega) W
  have HLE := hide1 hle
  clear hle
  by_cases ch : 65535 < im
  · have HT : Hid (T = ([], 7)) := by
      show T = _
      rw [hstp, if_pos (.inr ch)]
    have e1 : decide (65536 ≤ im) = true := by simp; omega
    clear hstp
    go_enter Tryz.func122, Tryz.ntmps122
    go_wp2_with fail
    go_ret2
    exact ⟨by rw [HT.out]; rfl, HBW.out _⟩
  · have e1 : decide (65536 ≤ im) = false := by simp; omega
    by_cases cl : im < -32768
    · have HT : Hid (T = ([], 7)) := by
        show T = _
        rw [hstp, if_pos (.inl cl)]
      have e2 : decide (im < -32768) = true := by simp; omega
      clear hstp
      go_enter Tryz.func122, Tryz.ntmps122
      go_wp2_with fail
      go_ret2
      exact ⟨by rw [HT.out]; rfl, HBW.out _⟩
    · have HT : Hid (T = (Byt.leB im 2, 0)) := by
        show T = _
        rw [hstp, if_neg (by omega)]
      have e2 : decide (im < -32768) = false := by simp; omega
      clear hstp
      go_enter Tryz.func122, Tryz.ntmps122
      go_wp2_with fail
      refine (HLE.out _).mono ?_
      rintro e w1 ⟨rfl, hb1⟩
      unfold Byt.strV
      go_wp2_with fail
      go_ret2
      exact ⟨by rw [HT.out]; rfl, (HBW.out _).trans (hb1.mono (HBW.out _).size)⟩
set_option maxHeartbeats 8000000 in
theorem u_word_ins (p : Option Addr) (cap : Nat) (L : List Ln) (hL : L.length ≤ 5000) (k : Nat) (hk : k < L.length) (nm tg : List UInt8) (op rd rs1 rs2 im : Int) (z : Nat) (hl : Hid (⟨nm, ⟨op, rd, rs1, rs2, im, z⟩, tg⟩ = L[k])) (hd : Hid (Tidy L)) (h1 : 1 ≤ op) (h70 : op ≤ 70) (hz : z = 2 ∨ z = 4) (b0 : rd ≤ 9223372036854775807) (b1 : rs1 ≤ 9223372036854775807) (b2 : rs2 ≤ 9223372036854775807) (w : World) (hw : Hid (ItsAt w p L)) (hp : Hid (∀ a, p = some a → a.block < w.heap.size)) :
    Calls Tryz.prog 122 #[.slice p L.length cap, .int .i64 k] w fun e w' => e = .returned (.tuple #[Byt.strV (Byt.stp L ⟨nm, ⟨op, rd, rs1, rs2, im, z⟩, tg⟩ (Byt.place L k).toNat).1, .int .i64 (Byt.stp L ⟨nm, ⟨op, rd, rs1, rs2, im, z⟩, tg⟩ (Byt.place L k).toNat).2]) ∧ Below w.heap.size w w' := by
  obtain ⟨T, hT⟩ : ∃ T, T = Byt.stp L ⟨nm, ⟨op, rd, rs1, rs2, im, z⟩, tg⟩ (Byt.place L k).toNat := ⟨_, rfl⟩
  rw [← hT]
  rcases hw.out with h0 | ⟨b, rfl, hcx⟩
  · exact absurd hk (by rw [h0]; simp)
  have hcx := hcx k hk
  have hbl : b < w.heap.size := hp.out _ rfl
  rw [← hl.out] at hcx
  have c0 := hcx.c0
  have c1 := hcx.c1
  have c2 := hcx.c2
  have c3 := hcx.c3
  have c4 := hcx.c4
  have c5 := hcx.c5
  have c6 := hcx.c6
  have c7 := hcx.c7
  have c8 := hcx.c8
  have c9 := hcx.c9
  simp only at c0 c1 c2 c3 c4 c5 c6 c7 c8 c9
  obtain ⟨NM, hNM⟩ : ∃ x : ByteArray, x = ⟨nm.toArray⟩ := ⟨_, rfl⟩
  obtain ⟨TG, hTG⟩ : ∃ x : ByteArray, x = ⟨tg.toArray⟩ := ⟨_, rfl⟩
  rw [← hNM] at c0
  rw [← hTG] at c8
  have hTl : TG.data.toList = tg := by rw [hTG]
  have q0 : (TG.toList == []) = decide (TG.data.toList = []) := eq_lit TG []
  rw [hTl] at q0
  have HTG := hide1 hTl
  clear hNM hTG hTl hcx
  have e0 : (op == 0) = false := by simp; omega
  have e71 : (op == 71) = false := by simp; omega
  have e72 : (op == 72) = false := by simp; omega
  have hz8 : z ≤ 4 := by omega
  have hz0 : ¬ z = 0 := by omega
  have hnb := Ex.new w NM ⟨op, rd, rs1, rs2, im, z⟩ TG
  have hww : Below w.heap.size w (w.alloc (itC NM ⟨op, rd, rs1, rs2, im, z⟩ TG)) := (Below.refl _ _).alloc (Nat.le_refl _) _
  by_cases htg : tg = []
  · rw [decide_eq_true htg] at q0
    have hstp := stp_ins (L := L) (l := ⟨nm, ⟨op, rd, rs1, rs2, im, z⟩, tg⟩) (Byt.place L k).toNat ⟨op, rd, rs1, rs2, im, z⟩ (by unfold Byt.aimed; rw [if_pos htg]) h1 h70 (by show ¬ (z : Int) = 0; omega) rfl rfl (fun h => h.1 htg)
    rw [← hT] at hstp
    obtain ⟨V, hV⟩ : ∃ V, V = encodeR ⟨op, rd, rs1, rs2, im, z⟩ := ⟨_, rfl⟩
    rw [← hV] at hstp
    have hww2 : Below w.heap.size w ((w.alloc (itC NM ⟨op, rd, rs1, rs2, im, z⟩ TG)).alloc (.cells #[.int .i64 op, .int .i64 rd, .int .i64 rs1, .int .i64 rs2, .int .i64 im, .int .i64 z] 53)) := hww.alloc hww.size _
    have hen := r_Encode ⟨op, rd, rs1, rs2, im, z⟩ b0 b1 b2 ((w.alloc (itC NM ⟨op, rd, rs1, rs2, im, z⟩ TG)).alloc (.cells #[.int .i64 op, .int .i64 rd, .int .i64 rs1, .int .i64 rs2, .int .i64 im, .int .i64 z] 53))
    rw [← hV] at hen
    have HEN := hide1 (hen.mono fun e w1 h => (⟨h.1, hide1 (hww2.trans (h.2.mono hww2.size)), ((hnb.alloc _).more h.2 (hnb.alloc _).lt).c9⟩ : _ ∧ Hid (Below w.heap.size w w1) ∧ w1.cell? ⟨w.heap.size, 9, none⟩ = some (.int .i64 z)))
    unfold insV itC at HEN
    obtain ⟨v, er⟩ := V
    have HT : Hid (T = if er = 0 then (Byt.leB v z, 0) else ([], 7)) := hstp
    clear hstp hV hen hww hww2 hnb htg hT h1 h70 hz hz0
    go_enter Tryz.func122, Tryz.ntmps122
    go_wp2_with fail
    refine HEN.out.mono ?_
    rintro e w1 ⟨rfl, hb1, d9⟩
    clear HEN
    by_cases her : er = 0
    · have her' : (er != 0) = false := by simp [her]
      have HT2 : Hid (T = (Byt.leB v z, 0)) := by
        show T = _
        rw [HT.out, if_pos her]
      clear her HT
      go_wp2_with fail
      refine (leL_str v z (by omega) _).mono ?_
      rintro e w2 ⟨rfl, hb2⟩
      unfold Byt.strV
      go_wp2_with fail
      go_ret2
      exact ⟨by rw [HT2.out]; rfl, hb1.out.trans (hb2.mono hb1.out.size)⟩
    · have her' : (er != 0) = true := by simp [her]
      have HT2 : Hid (T = ([], 7)) := by
        show T = _
        rw [HT.out, if_neg her]
      clear her HT
      go_wp2_with fail
      go_ret2
      exact ⟨by rw [HT2.out]; rfl, hb1.out⟩
  · rw [decide_eq_false htg] at q0
    have hfn := u_found (some ⟨b, 0, none⟩) cap L hL TG
    have hbk := fun W (hW : Below w.heap.size w W) => hfn W (hide1 (hw.out.below hW hp.out))
    have had := fun W (hW : Below w.heap.size w W) n hn => u_address (some ⟨b, 0, none⟩) cap L hL hd W (hide1 (hw.out.below hW hp.out)) n hn
    rw [HTG.out] at hbk
    obtain ⟨F, hF⟩ : ∃ F, F = Byt.findN L tg := ⟨_, rfl⟩
    have hFl : F ≤ L.length := by rw [hF]; exact Byt.findN_le L tg
    rw [← hF] at hbk
    have hww2 : Below w.heap.size w ((w.alloc (itC NM ⟨op, rd, rs1, rs2, im, z⟩ TG)).alloc (.cells #[.int .i64 op, .int .i64 rd, .int .i64 rs1, .int .i64 rs2, .int .i64 im, .int .i64 z] 53)) := hww.alloc hww.size _
    have hfd := hbk _ hww2
    clear hfn hbk
    by_cases hfe : F = L.length
    · have HT : Hid (T = ([], 8)) := by
        show T = _
        rw [hT]; exact stp_none _ htg (by show Byt.findN L tg = _; rw [← hF]; exact hfe)
      rw [if_neg (by omega)] at hfd
      have HFD := hide1 hfd
      have HW2 := hide1 hww2
      unfold itC at HFD HW2
      clear hT hF hfd hww hww2 hnb htg had
      go_enter Tryz.func122, Tryz.ntmps122
      go_wp2_with fail
      refine HFD.out.mono ?_
      rintro e w1 ⟨rfl, rfl⟩
      go_wp2_with fail
      go_ret2
      exact ⟨by rw [HT.out]; rfl, HW2.out⟩
    · have hFlt : F < L.length := by omega
      rw [if_pos hFlt] at hfd
      have ha1 := had _ hww2 F (by omega)
      have ha2 := had _ hww2 k (by omega)
      have hp1 := place_bd L F hd.out
      have hp2 := place_bd L k hd.out
      have hpn := place_nn L k hd.out
      obtain ⟨P, hP⟩ : ∃ P, P = Byt.place L F := ⟨_, rfl⟩
      obtain ⟨H, hH⟩ : ∃ H, H = Byt.place L k := ⟨_, rfl⟩
      rw [← hP] at ha1 hp1
      rw [← hH] at ha2 hp2 hpn hT
      have hstp := stp_ins (L := L) (l := ⟨nm, ⟨op, rd, rs1, rs2, im, z⟩, tg⟩) H.toNat ⟨op, rd, rs1, rs2, P - H, z⟩ (by
        unfold Byt.aimed; rw [if_neg htg, hpn]
        show ({ (⟨op, rd, rs1, rs2, im, z⟩ : Ins) with im := Byt.place L (Byt.findN L tg) - H } : Ins) = _
        rw [← hF, ← hP]) h1 h70 (by show ¬ (z : Int) = 0; omega) rfl rfl (fun h => hfe (by rw [hF]; exact h.2))
      rw [← hT] at hstp
      obtain ⟨V, hV⟩ : ∃ V, V = encodeR ⟨op, rd, rs1, rs2, P - H, z⟩ := ⟨_, rfl⟩
      rw [← hV] at hstp
      have hww3 : Below w.heap.size w ((w.alloc (itC NM ⟨op, rd, rs1, rs2, im, z⟩ TG)).alloc (.cells #[.int .i64 op, .int .i64 rd, .int .i64 rs1, .int .i64 rs2, .int .i64 (P - H), .int .i64 z] 53)) := hww.alloc hww.size _
      have hen := r_Encode ⟨op, rd, rs1, rs2, P - H, z⟩ b0 b1 b2 ((w.alloc (itC NM ⟨op, rd, rs1, rs2, im, z⟩ TG)).alloc (.cells #[.int .i64 op, .int .i64 rd, .int .i64 rs1, .int .i64 rs2, .int .i64 (P - H), .int .i64 z] 53))
      rw [← hV] at hen
      have hnb3 : Ex ((w.alloc (itC NM ⟨op, rd, rs1, rs2, im, z⟩ TG)).alloc (.cells #[.int .i64 op, .int .i64 rd, .int .i64 rs1, .int .i64 rs2, .int .i64 (P - H), .int .i64 z] 53)) w.heap.size NM ⟨op, rd, rs1, rs2, im, z⟩ TG := hnb.alloc _
      have HEN := hide1 (hen.mono fun e w1 h => (⟨h.1, hide1 (hww3.trans (h.2.mono hww3.size)), (hnb3.more h.2 hnb3.lt).c9⟩ : _ ∧ Hid (Below w.heap.size w w1) ∧ w1.cell? ⟨w.heap.size, 9, none⟩ = some (.int .i64 z)))
      have HFD := hide1 hfd
      have HA1 := hide1 ha1
      have HA2 := hide1 ha2
      unfold insV itC at HEN
      unfold itC at HFD HA1 HA2
      obtain ⟨v, er⟩ := V
      have HT : Hid (T = if er = 0 then (Byt.leB v z, 0) else ([], 7)) := hstp
      clear hstp hV hen hww hww2 hww3 hnb hnb3 htg hT h1 h70 hz hz0 hF hP hH hpn had ha1 ha2 hfd
      go_enter Tryz.func122, Tryz.ntmps122
      go_wp2_with fail
      refine HFD.out.mono ?_
      rintro e w1 ⟨rfl, rfl⟩
      go_wp2_with fail
      refine HA1.out.mono ?_
      rintro e w1 ⟨rfl, rfl⟩
      go_wp2_with fail
      refine HA2.out.mono ?_
      rintro e w1 ⟨rfl, rfl⟩
      go_wp2_with fail
      refine HEN.out.mono ?_
      rintro e w1 ⟨rfl, hb1, d9⟩
      clear HEN HFD HA1 HA2
      by_cases her : er = 0
      · have her' : (er != 0) = false := by simp [her]
        have HT2 : Hid (T = (Byt.leB v z, 0)) := by
          show T = _
          rw [HT.out, if_pos her]
        clear her HT
        go_wp2_with fail
        refine (leL_str v z (by omega) _).mono ?_
        rintro e w2 ⟨rfl, hb2⟩
        unfold Byt.strV
        go_wp2_with fail
        go_ret2
        exact ⟨by rw [HT2.out]; rfl, hb1.out.trans (hb2.mono hb1.out.size)⟩
      · have her' : (er != 0) = true := by simp [her]
        have HT2 : Hid (T = ([], 7)) := by
          show T = _
          rw [HT.out, if_neg her]
        clear her HT
        go_wp2_with fail
        go_ret2
        exact ⟨by rw [HT2.out]; rfl, hb1.out⟩
theorem u_word (p : Option Addr) (cap : Nat) (L : List Ln) (hL : L.length ≤ 5000) (hd : Hid (Tidy L)) (k : Nat) (hk : k < L.length) (hok : Lok L[k]) (w : World) (hw : Hid (ItsAt w p L)) (hp : Hid (∀ a, p = some a → a.block < w.heap.size)) :
    Calls Tryz.prog 122 #[.slice p L.length cap, .int .i64 k] w fun e w' => e = .returned (.tuple #[Byt.strV (Byt.stp L L[k] (Byt.place L k).toNat).1, .int .i64 (Byt.stp L L[k] (Byt.place L k).toNat).2]) ∧ Below w.heap.size w w' := by
  obtain ⟨l, hl⟩ : ∃ l, l = L[k] := ⟨_, rfl⟩
  rw [← hl] at hok ⊢
  obtain ⟨hway, b0, b1, b2⟩ := hok
  have hz : ∃ z : Nat, l.i.ln = z := ⟨l.i.ln.toNat, by omega⟩
  obtain ⟨z, hz⟩ := hz
  obtain ⟨nm, ⟨op, rd, rs1, rs2, im, ln⟩, tg⟩ := l
  simp only at hway b0 b1 b2 hz
  subst hz
  rcases hway with ⟨h1, h2, h3⟩ | ⟨h1, h2, h3⟩ | ⟨h1, h2, h3⟩ | ⟨h1, h2, h3⟩
  · exact u_word_zero p cap L hL k hk nm tg op rd rs1 rs2 im z (hide1 hl) h1 (by omega) h3 w hw hp
  · exact u_word_ins p cap L hL k hk nm tg op rd rs1 rs2 im z (hide1 hl) hd h1 h2 (by omega) b0 b1 b2 w hw hp
  · exact u_word_data_w p cap L hL k hk nm tg op rd rs1 rs2 im z (hide1 hl) h1 (by omega) h3 w hw hp
  · exact u_word_data_h p cap L hL k hk nm tg op rd rs1 rs2 im z (hide1 hl) h1 (by omega) h3 w hw hp
end Go.Proofs.YthfofjkfbhahoaaGreatDoor
end
