import Derived.Test.YthfofjkfbhahoaaGreatDoorXP
import Derived.Lib.ItoaLen
import Derived.Lib.ItoaMem
import Derived.Test.YthfofjkfbhahoaaGreatDoorXR
import Derived.Deep.RegionWith
import Derived.BigRegion
import Derived.Deep.CutBlock
import Derived.Deep.CutRange
import Derived.Test.YthfofjkfbhahoaaGreatDoorXS
section
namespace Go.Proofs.YthfofjkfbhahoaaGreatDoor
open Go.RowKit
set_option linter.unusedSimpArgs false
theorem hexv_dec (d : Nat) (h : d < 10) : Byt.hexv (UInt8.ofNat (48 + d)) = d := by
  have : (UInt8.ofNat (48 + d)).toNat = 48 + d := by simp [UInt8.toNat_ofNat']; omega
  unfold Byt.hexv; rw [this]; rw [if_pos (by omega)]; omega
theorem digs_app (b : Nat) : ∀ (l m : List UInt8) (acc : Nat), Byt.digs b acc (l ++ m) = match Byt.digs b acc l with | some x => Byt.digs b x m | none => none
  | [], m, acc => rfl
  | c :: l, m, acc => by
    simp only [List.cons_append, Byt.digs]
    split
    · rfl
    · exact digs_app b l m _
theorem digs_dec (n : Nat) : Byt.digs 10 0 (Lib.decDigits n) = some n := by
  induction n using Nat.strongRecOn with
  | ind n ih =>
    by_cases h : n < 10
    · rw [Lib.decDigits_one h]
      simp only [Byt.digs]
      rw [hexv_dec n h, if_neg (by omega)]; simp
    · rw [Lib.decDigits.eq_def n, dif_neg h, digs_app, ih (n / 10) (by omega)]
      simp only [Byt.digs]
      rw [hexv_dec _ (by omega), if_neg (by omega)]
      congr 1; omega
theorem dec_len (n k : Nat) (h : n < 10 ^ (k + 1)) : (Lib.decDigits n).length ≤ k + 1 := by
  induction k generalizing n with
  | zero => rw [Lib.decDigits_one (by simpa using h)]; simp
  | succ k ih =>
    by_cases h1 : n < 10
    · rw [Lib.decDigits_one h1]; simp
    · rw [Lib.decDigits.eq_def n, dif_neg h1]
      have := ih (n / 10) (by rw [Nat.pow_succ] at h; omega)
      simp; omega
theorem dec_ne (n : Nat) : 1 ≤ (Lib.decDigits n).length := by
  rw [Lib.decDigits.eq_def]; split <;> simp
theorem dec_all (n : Nat) : ∀ c ∈ Lib.decDigits n, Byt.dig c = true := by
  induction n using Nat.strongRecOn with
  | ind n ih =>
    have hd : ∀ d, d < 10 → Byt.dig (UInt8.ofNat (48 + d)) = true := by
      intro d hd
      have : (UInt8.ofNat (48 + d)).toNat = 48 + d := by simp [UInt8.toNat_ofNat']; omega
      unfold Byt.dig; rw [this]; simp; omega
    by_cases h : n < 10
    · rw [Lib.decDigits_one h]; intro c hc; rw [List.mem_singleton] at hc; rw [hc]; exact hd n h
    · rw [Lib.decDigits.eq_def n, dif_neg h]
      intro c hc
      rw [List.mem_append] at hc
      rcases hc with hc | hc
      · exact ih (n / 10) (by omega) c hc
      · rw [List.mem_singleton] at hc; rw [hc]; exact hd _ (by omega)
theorem plain_dec (n : Nat) (h : n < 10000000000) : Byt.plain (Lib.decDigits n) = some n := by
  unfold Byt.plain
  rw [if_neg]
  · unfold Byt.rdig
    have h1 := dec_ne n
    have h2 := dec_len n 9 (by omega)
    rw [if_neg (by omega)]; exact digs_dec n
  · rintro ⟨_, _, h3⟩
    have := dec_all n 120 (List.mem_of_getElem? h3)
    exact absurd this (by decide)
theorem dec_head (n : Nat) : (Lib.decDigits n)[0]? ≠ some 45 := fun h => absurd (dec_all n 45 (List.mem_of_getElem? h)) (by decide)
theorem number_itoa (v : Int) (h0 : -10000000000 < v) (h1 : v < 10000000000) : Byt.number (Lib.itoa v) = (v, true) := by
  by_cases h : v < 0
  · obtain ⟨n, rfl⟩ : ∃ n : Nat, v = -(n : Int) := ⟨v.natAbs, by omega⟩
    rw [Lib.itoa_neg n (by omega)]
    unfold Byt.number
    rw [if_pos (show (45 :: Lib.decDigits n)[0]? = some 45 from rfl)]
    simp [plain_dec n (by omega)]
  · obtain ⟨n, rfl⟩ : ∃ n : Nat, v = (n : Int) := ⟨v.toNat, by omega⟩
    rw [Lib.itoa_nonneg]
    unfold Byt.number
    rw [if_neg (dec_head n)]
    simp [plain_dec n (by omega)]
theorem rowEnd_app : ∀ (a r : List UInt8), (∀ c ∈ a, Byt.inn c = true) → Byt.rowEnd r = 0 → Byt.rowEnd (a ++ r) = a.length
  | [], r, _, h => by simpa using h
  | c :: a, r, ha, h => by
    simp only [List.cons_append, Byt.rowEnd]
    rw [if_pos (ha c (by simp)), rowEnd_app a r (fun d hd => ha d (by simp [hd])) h]; simp
theorem not35 (c : UInt8) (h : Byt.inn c = true) : ¬ c.toNat = 35 := by
  intro e; unfold Byt.inn Byt.nmc Byt.letr Byt.dig at h; rw [e] at h; simp at h
theorem tok_row (f : Nat) (a r : List UInt8) (hne : a ≠ []) (ha : ∀ c ∈ a, Byt.inn c = true) (hr : Byt.rowEnd r = 0) : Byt.tok (f + 1) (a ++ r) = a :: Byt.tok f r := by
  cases a with
  | nil => exact absurd rfl hne
  | cons c a =>
    have hre := rowEnd_app (c :: a) r ha hr
    simp only [List.cons_append] at hre ⊢
    simp only [Byt.tok]
    rw [if_neg (not35 c (ha c (by simp))), if_pos (by rw [hre]; simp), hre, ← List.cons_append, List.take_left, List.drop_left]
theorem tok_blank (f : Nat) (r : List UInt8) : Byt.tok (f + 1) (32 :: r) = Byt.tok f r := rfl
theorem tok_comma (f : Nat) (r : List UInt8) : Byt.tok (f + 1) (44 :: r) = [44] :: Byt.tok f r := rfl
theorem tok_open (f : Nat) (r : List UInt8) : Byt.tok (f + 1) (40 :: r) = [40] :: Byt.tok f r := rfl
theorem tok_shut (f : Nat) (r : List UInt8) : Byt.tok (f + 1) (41 :: r) = [41] :: Byt.tok f r := rfl
theorem dig_inn (c : UInt8) (h : Byt.dig c = true) : Byt.inn c = true := by unfold Byt.inn Byt.nmc; rw [h]; simp
theorem itoa_inn (v : Int) : ∀ c ∈ Lib.itoa v, Byt.inn c = true := by
  by_cases h : v < 0
  · obtain ⟨n, rfl⟩ : ∃ n : Nat, v = -(n : Int) := ⟨v.natAbs, by omega⟩
    rw [Lib.itoa_neg n (by omega)]
    intro c hc
    rcases List.mem_cons.1 hc with rfl | hc
    · decide
    · exact dig_inn c (dec_all n c hc)
  · obtain ⟨n, rfl⟩ : ∃ n : Nat, v = (n : Int) := ⟨v.toNat, by omega⟩
    rw [Lib.itoa_nonneg]
    exact fun c hc => dig_inn c (dec_all n c hc)
theorem itoa_ne (v : Int) : Lib.itoa v ≠ [] := by
  by_cases h : v < 0
  · obtain ⟨n, rfl⟩ : ∃ n : Nat, v = -(n : Int) := ⟨v.natAbs, by omega⟩
    rw [Lib.itoa_neg n (by omega)]; simp
  · obtain ⟨n, rfl⟩ : ∃ n : Nat, v = (n : Int) := ⟨v.toNat, by omega⟩
    rw [Lib.itoa_nonneg]; have := dec_ne n; intro e; rw [e] at this; simp at this
namespace Byt
def opT (c : Nat) (i : Ins) : List UInt8 :=
  if c = 100 then regName i.rd.toNat else if c = 115 then regName i.rs1.toNat else if c = 116 then regName i.rs2.toNat else if c = 117 then Lib.itoa i.rs1
  else if c = 109 then Lib.itoa i.im ++ 40 :: (regName i.rs1.toNat ++ [41]) else Lib.itoa i.im
def sepT : List Nat → Bool → Ins → List UInt8
  | [], _, _ => []
  | c :: cs, m, i => (if m then [44, 32] else [32]) ++ (opT c i ++ sepT cs true i)
def opK (c : Nat) (i : Ins) : List (List UInt8) :=
  if c = 100 then [regName i.rd.toNat] else if c = 115 then [regName i.rs1.toNat] else if c = 116 then [regName i.rs2.toNat] else if c = 117 then [Lib.itoa i.rs1]
  else if c = 109 then [Lib.itoa i.im, [40], regName i.rs1.toNat, [41]] else [Lib.itoa i.im]
def sepK : List Nat → Bool → Ins → List (List UInt8)
  | [], _, _ => []
  | c :: cs, m, i => (if m then [[44]] else []) ++ (opK c i ++ sepK cs true i)
def fill (j i : Ins) (c : Nat) : Ins :=
  if c = 100 then { j with rd := i.rd } else if c = 115 then { j with rs1 := i.rs1 } else if c = 116 then { j with rs2 := i.rs2 } else if c = 117 then { j with rs1 := i.rs1 }
  else if c = 109 then { j with im := i.im, rs1 := i.rs1 } else { j with im := i.im }
def lets : List Nat := [100, 115, 116, 109, 106, 117, 105]
end Byt
theorem reg_all : ((List.range 32).all fun n => Byt.reg (Byt.regName n) == some n) = true := by decide +kernel
theorem reg_name (n : Nat) (h : n < 32) : Byt.reg (Byt.regName n) = some n := by
  have := List.all_eq_true.1 reg_all n (by simpa using h)
  simpa using this
theorem reg_inn (n : Nat) : ∀ c ∈ Byt.regName n, Byt.inn c = true := by
  intro c hc
  unfold Byt.regName at hc
  rcases List.mem_cons.1 hc with rfl | hc
  · decide
  · exact dig_inn c (dec_all n c hc)
theorem tok_row' (f : Nat) (a r : List UInt8) (hne : a ≠ []) (ha : ∀ c ∈ a, Byt.inn c = true) (hr : Byt.rowEnd r = 0) (T : List (List UInt8)) (h : ∀ f, r.length ≤ f → Byt.tok f r = T) (hf : (a ++ r).length ≤ f) : Byt.tok f (a ++ r) = a :: T := by
  have hl : 1 ≤ a.length := by
    cases a with
    | nil => exact absurd rfl hne
    | cons => simp
  rw [List.length_append] at hf
  obtain ⟨g, rfl⟩ : ∃ g, f = g + 1 := ⟨f - 1, by omega⟩
  rw [tok_row g a r hne ha hr, h g (by omega)]
theorem rowEnd_sep (cs : List Nat) (m : Bool) (i : Ins) : Byt.rowEnd (Byt.sepT cs m i) = 0 := by
  cases cs with
  | nil => rfl
  | cons c cs => cases m <;> rfl
theorem tok_op (c : Nat) (i : Ins) (r : List UInt8) (hr : Byt.rowEnd r = 0) (T : List (List UInt8)) (h : ∀ f, r.length ≤ f → Byt.tok f r = T) : ∀ f, (Byt.opT c i ++ r).length ≤ f → Byt.tok f (Byt.opT c i ++ r) = Byt.opK c i ++ T := by
  intro f hf
  have hreg : ∀ n, (Byt.regName n ++ r).length ≤ f → Byt.tok f (Byt.regName n ++ r) = Byt.regName n :: T := fun n hf => tok_row' f _ r (by simp [Byt.regName]) (reg_inn n) hr T h hf
  have hnum : ∀ v, (Lib.itoa v ++ r).length ≤ f → Byt.tok f (Lib.itoa v ++ r) = Lib.itoa v :: T := fun v hf => tok_row' f _ r (itoa_ne v) (itoa_inn v) hr T h hf
  unfold Byt.opT at hf ⊢
  unfold Byt.opK
  by_cases c1 : c = 100
  · simp only [if_pos c1] at hf ⊢; exact hreg _ hf
  simp only [if_neg c1] at hf ⊢
  by_cases c2 : c = 115
  · simp only [if_pos c2] at hf ⊢; exact hreg _ hf
  simp only [if_neg c2] at hf ⊢
  by_cases c3 : c = 116
  · simp only [if_pos c3] at hf ⊢; exact hreg _ hf
  simp only [if_neg c3] at hf ⊢
  by_cases c4 : c = 117
  · simp only [if_pos c4] at hf ⊢; exact hnum _ hf
  simp only [if_neg c4] at hf ⊢
  by_cases c5 : c = 109
  · simp only [if_pos c5] at hf ⊢
    rw [List.append_assoc] at hf ⊢
    refine tok_row' f _ _ (itoa_ne _) (itoa_inn _) rfl ([40] :: Byt.regName i.rs1.toNat :: [41] :: T) ?_ hf
    intro g hg
    obtain ⟨g, rfl⟩ : ∃ k, g = k + 1 := ⟨g - 1, by simp at hg; omega⟩
    simp only [List.cons_append, List.append_assoc] at hg ⊢
    rw [tok_open]
    congr 1
    refine tok_row' g _ _ (by simp [Byt.regName]) (reg_inn _) rfl ([41] :: T) ?_ (by simpa using hg)
    intro k hk
    obtain ⟨k, rfl⟩ : ∃ j, k = j + 1 := ⟨k - 1, by simp at hk; omega⟩
    rw [tok_shut, List.nil_append, h k (by simpa using hk)]
  · simp only [if_neg c5] at hf ⊢; exact hnum _ hf
theorem tok_sep : ∀ (cs : List Nat) (m : Bool) (i : Ins) (f : Nat), (Byt.sepT cs m i).length ≤ f → Byt.tok f (Byt.sepT cs m i) = Byt.sepK cs m i
  | [], m, i, f, _ => by cases f <;> rfl
  | c :: cs, m, i, f, hf => by
    have ih := tok_sep cs true i
    have h1 := tok_op c i (Byt.sepT cs true i) (rowEnd_sep cs true i) _ ih
    cases m with
    | true =>
      simp only [Byt.sepT, Byt.sepK, if_true, List.cons_append, List.nil_append, List.length_cons] at hf ⊢
      obtain ⟨g, rfl⟩ : ∃ g, f = g + 1 + 1 := ⟨f - 2, by omega⟩
      rw [tok_comma, tok_blank, h1 g (by omega)]
    | false =>
      simp only [Byt.sepT, Byt.sepK, if_false, Bool.false_eq_true, List.cons_append, List.nil_append, List.length_cons] at hf ⊢
      obtain ⟨g, rfl⟩ : ∃ g, f = g + 1 := ⟨f - 1, by omega⟩
      rw [tok_blank, h1 g (by omega)]
theorem tok_line (nm : List UInt8) (hne : nm ≠ []) (hn : ∀ c ∈ nm, Byt.inn c = true) (cs : List Nat) (i : Ins) (f : Nat) (hf : (nm ++ Byt.sepT cs false i).length ≤ f) : Byt.tok f (nm ++ Byt.sepT cs false i) = nm :: Byt.sepK cs false i :=
  tok_row' f nm _ hne hn (rowEnd_sep cs false i) _ (fun g hg => tok_sep cs false i g hg) hf
/-- an instruction whose numbers are those of a word -/
structure Tame (i : Ins) : Prop where
  d0 : 0 ≤ i.rd
  d1 : i.rd < 32
  s0 : 0 ≤ i.rs1
  s1 : i.rs1 < 32
  t0 : 0 ≤ i.rs2
  t1 : i.rs2 < 32
  i0 : -10000000000 < i.im
  i1 : i.im < 10000000000
theorem number_name (v : Int) (h0 : -10000000000 < v) (h1 : v < 10000000000) : Byt.isName (Lib.itoa v) = false := by
  by_cases h : v < 0
  · obtain ⟨n, rfl⟩ : ∃ n : Nat, v = -(n : Int) := ⟨v.natAbs, by omega⟩
    rw [Lib.itoa_neg n (by omega)]
    simp only [Byt.isName, List.all_cons]
    rw [show Byt.nmc 45 = false by decide]; simp
  · obtain ⟨n, rfl⟩ : ∃ n : Nat, v = (n : Int) := ⟨v.toNat, by omega⟩
    rw [Lib.itoa_nonneg]
    have h1 := dec_ne n
    have h2 := dec_all n
    cases hd : Lib.decDigits n with
    | nil => rfl
    | cons c l =>
      rw [hd] at h2
      simp only [Byt.isName]
      rw [h2 c (by simp)]; rfl
theorem opd_print (i j : Ins) (hi : Tame i) (g : List UInt8) (c : Nat) (hc : c ∈ Byt.lets) (r : List (List UInt8)) : Byt.opdP j g c (Byt.opK c i ++ r) = some (Byt.fill j i c, g) := by
  have hd := reg_name i.rd.toNat (by have := hi.d0; have := hi.d1; omega)
  have hs := reg_name i.rs1.toNat (by have := hi.s0; have := hi.s1; omega)
  have ht := reg_name i.rs2.toNat (by have := hi.t0; have := hi.t1; omega)
  have hn := number_itoa i.im hi.i0 hi.i1
  have hu := number_itoa i.rs1 (by have := hi.s0; omega) (by have := hi.s1; omega)
  have hm := number_name i.im hi.i0 hi.i1
  have e1 : ((i.rd.toNat : Nat) : Int) = i.rd := by have := hi.d0; omega
  have e2 : ((i.rs1.toNat : Nat) : Int) = i.rs1 := by have := hi.s0; omega
  have e3 : ((i.rs2.toNat : Nat) : Int) = i.rs2 := by have := hi.t0; omega
  simp only [Byt.lets, List.mem_cons, List.not_mem_nil, or_false] at hc
  rcases hc with rfl | rfl | rfl | rfl | rfl | rfl | rfl
  · simp [Byt.opdP, Byt.opK, Byt.opdR, Byt.fill, hd, e1]
  · simp [Byt.opdP, Byt.opK, Byt.opdR, Byt.fill, hs, e2]
  · simp [Byt.opdP, Byt.opK, Byt.opdR, Byt.fill, ht, e3]
  · simp [Byt.opdP, Byt.opK, Byt.opdM, Byt.fill, hs, hn, e2]
  · simp [Byt.opdP, Byt.opK, Byt.opdN, Byt.fill, hn, hm]
  · simp [Byt.opdP, Byt.opK, Byt.opdN, Byt.fill, hu]
  · simp [Byt.opdP, Byt.opK, Byt.opdN, Byt.fill, hn]
theorem opK_len (c : Nat) (i : Ins) : (Byt.opK c i).length = Byt.cnt c := by
  unfold Byt.opK Byt.cnt
  repeat (first | rfl | (split <;> first | rfl | (subst_vars; rfl) | skip))
theorem ops_print : ∀ (cs : List Nat) (m : Bool) (i j : Ins) (g : List UInt8), Tame i → (∀ c ∈ cs, c ∈ Byt.lets) → Byt.opsP cs m j g (Byt.sepK cs m i) = some (cs.foldl (fun j c => Byt.fill j i c) j, g)
  | [], m, i, j, g, _, _ => rfl
  | c :: cs, m, i, j, g, hi, hc => by
    have h1 := opd_print i j hi g c (hc c (by simp)) (Byt.sepK cs true i)
    have ih := ops_print cs true i (Byt.fill j i c) g hi (fun d hd => hc d (by simp [hd]))
    have hl := opK_len c i
    cases m with
    | true =>
      simp only [Byt.opsP, Byt.sepK, if_true]
      rw [if_neg (by simp)]
      simp only [List.singleton_append, List.drop_succ_cons, List.drop_zero]
      rw [h1]
      simp only [List.foldl_cons]
      rw [show 1 + Byt.cnt c = Byt.cnt c + 1 by omega, List.drop_succ_cons, ← hl, List.drop_left, ih]
    | false =>
      simp only [Byt.opsP, Byt.sepK, if_false, Bool.false_eq_true, List.nil_append, Nat.zero_add, List.drop_zero, false_and]
      rw [h1]
      simp only [List.foldl_cons]
      rw [← hl, List.drop_left, ih]
end Go.Proofs.YthfofjkfbhahoaaGreatDoor
end
section
namespace Go.Proofs.YthfofjkfbhahoaaGreatDoor
open Go.RowKit
set_option linter.unusedSimpArgs false
theorem tab_more {P : Program} {w w' : World} {name : String} {k : IntKind} {zs : List Int} (h : Lib.TabIs P w name k zs) (hb : Below w.heap.size w w') : Lib.TabIs P w' name k zs := by
  unfold Lib.TabIs World.var? at h ⊢
  cases hg : P.globalNamed name with
  | none => rw [hg] at h; simp at h
  | some g =>
    rw [hg] at h
    simp only [Option.bind_some] at h ⊢
    have hlt : g < w.heap.size := by
      refine Nat.lt_of_not_le fun hle => ?_
      rw [Array.getElem?_eq_none hle] at h; simp at h
    rw [hb.block g hlt]; exact h
theorem grow_below (w : World) (k : Nat) (os : Array Obj) : Below w.heap.size w (Go.Sort.grow (w.drewN k) os) := by
  have h1 : Below w.heap.size w (w.drewN k) := ⟨rfl, rfl, rfl, Nat.le_refl _, fun _ _ => rfl⟩
  refine h1.trans ⟨rfl, rfl, rfl, by unfold Go.Sort.grow; simp, fun j hj => ?_⟩
  show ((w.drewN k).heap ++ os)[j]? = (w.drewN k).heap[j]?
  exact Array.getElem?_append_left hj
def Tb (w : World) : Prop := Lib.TabIs Tryz.prog w "internal/strconv.uint64pow10" .u64 Lib.pow10Tab
theorem Tb.more {w w' : World} (h : Tb w) (hb : Below w.heap.size w w') : Tb w' := tab_more h hb
theorem a_itoa (v : Int) (h0 : -1099511627776 ≤ v) (h1 : v ≤ 1099511627776) (w : World) (ht : Tb w) :
    Calls Tryz.prog 164 #[.int .i64 v] w fun e w' => e = .returned (Byt.strV (Lib.itoa v)) ∧ Below w.heap.size w w' := by
  refine (Tryz.strconv_Itoa v (by omega) (by omega) w ht).mono ?_
  rintro e w' ⟨rfl, k, os, rfl⟩
  exact ⟨rfl, grow_below _ _ _⟩
theorem itoa_len (v : Int) (h0 : -1099511627776 ≤ v) (h1 : v ≤ 1099511627776) : (Lib.itoa v).length ≤ 21 := Lib.itoa_length_le v (by omega) (by omega)
theorem regName_len (n : Nat) (h : n < 100) : (Byt.regName n).length ≤ 11 := by
  have hlen := List.all_eq_true.1 names_short n (by simpa using h)
  rw [decide_eq_true_eq] at hlen
  simp only [Byt.regName, List.length_cons]; omega
set_option maxHeartbeats 4000000 in
theorem a_operandText (c : Nat) (hc : c = 100 ∨ c = 115 ∨ c = 116 ∨ c = 109 ∨ c = 106 ∨ c = 117 ∨ c = 105) (i : Ins) (hi : Tame i) (w : World) (ht : Tb w) :
    Calls Tryz.prog 167 #[.int .u8 c, insV i] w fun e w' => e = .returned (Byt.strV (Byt.opT c i)) ∧ Below w.heap.size w w' := by
  obtain ⟨rd, hrd⟩ : ∃ n : Nat, i.rd = n := ⟨i.rd.toNat, by have := hi.d0; omega⟩
  obtain ⟨rs1, hrs1⟩ : ∃ n : Nat, i.rs1 = n := ⟨i.rs1.toNat, by have := hi.s0; omega⟩
  obtain ⟨rs2, hrs2⟩ : ∃ n : Nat, i.rs2 = n := ⟨i.rs2.toNat, by have := hi.t0; omega⟩
  have b0 : rd < 32 := by have := hi.d1; omega
  have b1 : rs1 < 32 := by have := hi.s1; omega
  have b2 : rs2 < 32 := by have := hi.t1; omega
  have b3 := hi.i0
  have b4 := hi.i1
  clear hi
  obtain ⟨op, d, s, t, im, ln⟩ := i
  simp only at hrd hrs1 hrs2 b3 b4
  subst hrd hrs1 hrs2
  unfold insV Byt.opT
  simp only [Int.toNat_natCast]
  have hbw : ∀ o, Below w.heap.size w (w.alloc o) := fun o => (Below.refl _ _).alloc (Nat.le_refl _) _
  have HT : Hid (∀ o, Tb (w.alloc o)) := fun o => ht.more (hbw o)
  rcases hc with rfl | rfl | rfl | rfl | rfl | rfl | rfl
  · simp only [if_true]
    obtain ⟨X, hX⟩ : ∃ X, X = Byt.strV (Byt.regName rd) := ⟨_, rfl⟩
    have hr := fun w => a_registerName rd (by omega) w
    rw [← hX] at hr ⊢
    have HR := hide1 hr
    clear hr hX ht
    go_enter Tryz.func167, Tryz.ntmps167
    go_wp2_with (go_at_call 220; refine (HR.out _).mono ?_; rintro e w' ⟨rfl, rfl⟩)
    go_ret
    exact ⟨rfl, hbw _⟩
  · rw [if_neg (by decide), if_pos rfl]
    obtain ⟨X, hX⟩ : ∃ X, X = Byt.strV (Byt.regName rs1) := ⟨_, rfl⟩
    have hr := fun w => a_registerName rs1 (by omega) w
    rw [← hX] at hr ⊢
    have HR := hide1 hr
    clear hr hX ht
    go_enter Tryz.func167, Tryz.ntmps167
    go_wp2_with (go_at_call 220; refine (HR.out _).mono ?_; rintro e w' ⟨rfl, rfl⟩)
    go_ret
    exact ⟨rfl, hbw _⟩
  · rw [if_neg (by decide), if_neg (by decide), if_pos rfl]
    obtain ⟨X, hX⟩ : ∃ X, X = Byt.strV (Byt.regName rs2) := ⟨_, rfl⟩
    have hr := fun w => a_registerName rs2 (by omega) w
    rw [← hX] at hr ⊢
    have HR := hide1 hr
    clear hr hX ht
    go_enter Tryz.func167, Tryz.ntmps167
    go_wp2_with (go_at_call 220; refine (HR.out _).mono ?_; rintro e w' ⟨rfl, rfl⟩)
    go_ret
    exact ⟨rfl, hbw _⟩
  · rw [if_neg (by decide), if_neg (by decide), if_neg (by decide), if_neg (by decide), if_pos rfl]
    obtain ⟨X, hX⟩ : ∃ X : ByteArray, X = ⟨(Byt.regName rs1).toArray⟩ := ⟨_, rfl⟩
    obtain ⟨Y, hY⟩ : ∃ Y : ByteArray, Y = ⟨(Lib.itoa im).toArray⟩ := ⟨_, rfl⟩
    obtain ⟨Z1, hZ1⟩ : ∃ Z : ByteArray, Z = ⟨(Lib.itoa im ++ [40]).toArray⟩ := ⟨_, rfl⟩
    obtain ⟨Z2, hZ2⟩ : ∃ Z : ByteArray, Z = ⟨((Lib.itoa im ++ [40]) ++ Byt.regName rs1).toArray⟩ := ⟨_, rfl⟩
    obtain ⟨Z3, hZ3⟩ : ∃ Z : ByteArray, Z = ⟨(((Lib.itoa im ++ [40]) ++ Byt.regName rs1) ++ [41]).toArray⟩ := ⟨_, rfl⟩
    have l1 := itoa_len im (by omega) (by omega)
    have l2 := regName_len rs1 (by omega)
    have a1 : ∀ w, (Op.stringOp .add Y ⟨#[40]⟩).run Tryz.prog w = .ok (.string Z1) w := fun w => add_str (a := Y) (b := ⟨#[40]⟩) (c := Z1) (by rw [hY, hZ1]; exact mk_app _ [40]) (by rw [hY]; simp [ByteArray.size]; omega) w
    have a2 : ∀ w, (Op.stringOp .add Z1 X).run Tryz.prog w = .ok (.string Z2) w := fun w => add_str (a := Z1) (b := X) (c := Z2) (by rw [hZ1, hX, hZ2]; exact mk_app _ _) (by rw [hZ1, hX]; simp [ByteArray.size]; omega) w
    have a3 : ∀ w, (Op.stringOp .add Z2 ⟨#[41]⟩).run Tryz.prog w = .ok (.string Z3) w := fun w => add_str (a := Z2) (b := ⟨#[41]⟩) (c := Z3) (by rw [hZ2, hZ3]; exact mk_app _ [41]) (by rw [hZ2]; simp [ByteArray.size]; omega) w
    have hr := fun w => a_registerName rs1 (by omega) w
    rw [show Byt.strV (Byt.regName rs1) = .string X by rw [hX]; rfl] at hr
    have hn := fun w ht => a_itoa im (by omega) (by omega) w ht
    rw [show Byt.strV (Lib.itoa im) = .string Y by rw [hY]; rfl] at hn
    obtain ⟨W0, hW0⟩ : ∃ W0, W0 = w.alloc (.cells #[.int .i64 op, .int .i64 rd, .int .i64 rs1, .int .i64 rs2, .int .i64 im, .int .i64 ln] 53) := ⟨_, rfl⟩
    have hc2 : W0.cell? ⟨w.heap.size, 2, none⟩ = some (.int .i64 rs1) := by rw [hW0]; simp
    have hl2 : w.heap.size < W0.heap.size := by rw [hW0]; simp
    have hb0 : Below w.heap.size w W0 := by rw [hW0]; exact hbw _
    have ht0 : Tb W0 := ht.more hb0
    have HNA := hide1 ((hn W0.drew (ht0.more (Below.refl _ _).drew)).mono fun e w1 h => (⟨h.1, (h.2.cell (p := ⟨w.heap.size, 2, none⟩) hl2).trans hc2, hide1 (hb0.trans ((Below.refl _ _).drew.trans (h.2.mono (Nat.le_of_lt hl2))))⟩ : _ ∧ w1.cell? ⟨w.heap.size, 2, none⟩ = some (.int .i64 rs1) ∧ Hid (Below w.heap.size w w1)))
    rw [hW0] at HNA
    clear hc2 hl2 hb0 ht0 hW0
    rw [show Byt.strV (Lib.itoa im ++ 40 :: (Byt.regName rs1 ++ [41])) = .string Z3 by rw [hZ3]; unfold Byt.strV; simp]
    have HR := hide1 hr
    clear hr hn hX hY hZ1 hZ2 hZ3 l1 l2 ht
    go_enter Tryz.func167, Tryz.ntmps167
    go_upto_region 11 with fail
    go_region_with (first | (go_at_call 220; refine (HR.out _).mono ?_; rintro e w' ⟨rfl, rfl⟩) | (go_at_call 164; with_reducible refine HNA.out.mono ?_; rintro e w1 ⟨rfl, d2, hb1⟩))
    all_goals (go_wp2; go_ret; exact ⟨rfl, hb1.out⟩)
  · rw [if_neg (by decide), if_neg (by decide), if_neg (by decide), if_neg (by decide), if_neg (by decide)]
    obtain ⟨X, hX⟩ : ∃ X, X = Byt.strV (Lib.itoa im) := ⟨_, rfl⟩
    have hr := fun w ht => a_itoa im (by omega) (by omega) w ht
    rw [← hX] at hr ⊢
    have HR := hide1 hr
    clear hr hX ht
    go_enter Tryz.func167, Tryz.ntmps167
    go_wp2_with (go_at_call 164; refine (HR.out _ (HT.out _)).mono ?_; rintro e w1 ⟨rfl, hb1⟩)
    go_ret
    exact ⟨rfl, (hbw _).trans (hb1.mono (hbw _).size)⟩
  · rw [if_neg (by decide), if_neg (by decide), if_neg (by decide), if_pos rfl]
    obtain ⟨X, hX⟩ : ∃ X, X = Byt.strV (Lib.itoa (rs1 : Int)) := ⟨_, rfl⟩
    have hr := fun w ht => a_itoa (rs1 : Int) (by omega) (by omega) w ht
    rw [← hX] at hr ⊢
    have HR := hide1 hr
    clear hr hX ht
    go_enter Tryz.func167, Tryz.ntmps167
    go_wp2_with (go_at_call 164; refine (HR.out _ (HT.out _)).mono ?_; rintro e w1 ⟨rfl, hb1⟩)
    go_ret
    exact ⟨rfl, (hbw _).trans (hb1.mono (hbw _).size)⟩
  · rw [if_neg (by decide), if_neg (by decide), if_neg (by decide), if_neg (by decide), if_neg (by decide)]
    obtain ⟨X, hX⟩ : ∃ X, X = Byt.strV (Lib.itoa im) := ⟨_, rfl⟩
    have hr := fun w ht => a_itoa im (by omega) (by omega) w ht
    rw [← hX] at hr ⊢
    have HR := hide1 hr
    clear hr hX ht
    go_enter Tryz.func167, Tryz.ntmps167
    go_wp2_with (go_at_call 164; refine (HR.out _ (HT.out _)).mono ?_; rintro e w1 ⟨rfl, hb1⟩)
    go_ret
    exact ⟨rfl, (hbw _).trans (hb1.mono (hbw _).size)⟩
set_option maxHeartbeats 1000000 in
theorem a_dataText (v : Int) (h0 : -1099511627776 ≤ v) (h1 : v ≤ 1099511627776) (n : Int) (w : World) (ht : Tb w) :
    Calls Tryz.prog 114 #[.int .i64 v, .int .i64 n] w fun e w' => e = .returned (Byt.strV (Byt.nmL (if n = 2 then 72 else 71) ++ 32 :: Lib.itoa v)) ∧ Below w.heap.size w w' := by
  obtain ⟨o, ho⟩ : ∃ o : Nat, o = if n = 2 then 72 else 71 := ⟨_, rfl⟩
  rw [← ho]
  have hoo : o ≤ 72 := by rw [ho]; split <;> omega
  obtain ⟨X, hX⟩ : ∃ X : ByteArray, X = Nm.name o := ⟨_, rfl⟩
  obtain ⟨Y, hY⟩ : ∃ Y : ByteArray, Y = ⟨(Lib.itoa v).toArray⟩ := ⟨_, rfl⟩
  obtain ⟨Z1, hZ1⟩ : ∃ Z : ByteArray, Z = ⟨(Byt.nmL o ++ [32]).toArray⟩ := ⟨_, rfl⟩
  obtain ⟨Z2, hZ2⟩ : ∃ Z : ByteArray, Z = ⟨((Byt.nmL o ++ [32]) ++ Lib.itoa v).toArray⟩ := ⟨_, rfl⟩
  have l1 := itoa_len v h0 h1
  have l2 : (Byt.nmL o).length ≤ 20 := by have := nm_sz o hoo; unfold Byt.nmL; rw [Array.length_toList]; exact this
  have a1 : ∀ w, (Op.stringOp .add X ⟨#[32]⟩).run Tryz.prog w = .ok (.string Z1) w := fun w => add_str (a := X) (b := ⟨#[32]⟩) (c := Z1) (by rw [hX, hZ1, ← mk_list (Nm.name o)]; exact mk_app _ [32]) (by rw [hX]; have := nm_sz o hoo; have h2 : (⟨#[32]⟩ : ByteArray).size = 1 := rfl; rw [h2]; omega) w
  have a2 : ∀ w, (Op.stringOp .add Z1 Y).run Tryz.prog w = .ok (.string Z2) w := fun w => add_str (a := Z1) (b := Y) (c := Z2) (by rw [hZ1, hY, hZ2]; exact mk_app _ _) (by rw [hZ1, hY]; simp [ByteArray.size]; omega) w
  have hn := a_itoa v h0 h1 w ht
  rw [show Byt.strV (Lib.itoa v) = .string Y by rw [hY]; rfl] at hn
  rw [show Byt.strV (Byt.nmL o ++ 32 :: Lib.itoa v) = .string Z2 by rw [hZ2]; unfold Byt.strV; simp]
  have HN := hide1 hn
  have HX := hide1 hX
  clear hn hX hY hZ1 hZ2 l1 l2 ht hoo
  by_cases h2 : n = 2
  · rw [if_pos h2] at ho
    have h2' : (n == 2) = true := by simp [h2]
    subst ho
    have HX' : Hid (Nm.name 72 = X) := HX.out.symm
    clear h2
    go_enter Tryz.func114, Tryz.ntmps114
    go_wp2_with (first | (go_at_call 163; refine (a_Name _ _).mono ?_; rintro e w' ⟨rfl, rfl⟩; rw [HX'.out]) | (go_at_call 164; refine HN.out.mono ?_; rintro e w1 ⟨rfl, hb1⟩))
    go_ret
    exact ⟨rfl, hb1⟩
  · rw [if_neg h2] at ho
    have h2' : (n == 2) = false := by simp [h2]
    subst ho
    have HX' : Hid (Nm.name 71 = X) := HX.out.symm
    clear h2
    go_enter Tryz.func114, Tryz.ntmps114
    go_wp2_with (first | (go_at_call 163; refine (a_Name _ _).mono ?_; rintro e w' ⟨rfl, rfl⟩; rw [HX'.out]) | (go_at_call 164; refine HN.out.mono ?_; rintro e w1 ⟨rfl, hb1⟩))
    go_ret
    exact ⟨rfl, hb1⟩
end Go.Proofs.YthfofjkfbhahoaaGreatDoor
end
section
namespace Go.Proofs.YthfofjkfbhahoaaGreatDoor
open Go.RowKit
set_option linter.unusedSimpArgs false
namespace Byt
/-- the line that means an instruction -/
def insT (i : Ins) : List UInt8 := (if i.ln = 2 then 99 :: 46 :: nmL i.op.toNat else nmL i.op.toNat) ++ sepT (shp i.op.toNat) false i
/-- the line that means a word; the error -/
def textD (x : Int) : List UInt8 × Int :=
  if (decodeD x).2 = 0 then
    if (encodeD (decodeD x).1).2 = 0 ∧ (encodeD (decodeD x).1).1 = x then (insT (decodeD x).1, 0)
    else (nmL (if (decodeD x).1.ln = 2 then 72 else 71) ++ 32 :: Lib.itoa x, 0)
  else ([], (decodeD x).2)
end Byt
theorem app_list' (X B : ByteArray) : (X ++ B).data.toList = X.data.toList ++ B.data.toList := by
  rw [ByteArray.data_append, Array.toList_append]
theorem opT_len (c : Nat) (i : Ins) (hi : Tame i) : (Byt.opT c i).length ≤ 50 := by
  have h1 := regName_len i.rd.toNat (by have := hi.d1; omega)
  have h2 := regName_len i.rs1.toNat (by have := hi.s1; omega)
  have h3 := regName_len i.rs2.toNat (by have := hi.t1; omega)
  have h4 := itoa_len i.im (by have := hi.i0; omega) (by have := hi.i1; omega)
  have h5 := itoa_len i.rs1 (by have := hi.s0; omega) (by have := hi.s1; omega)
  unfold Byt.opT
  repeat (first | omega | split | (simp only [List.length_append, List.length_cons, List.length_nil]; omega))
theorem sep_cons (cs : List Nat) (c : Nat) (K : Nat) (i : Ins) : Byt.sepT (c :: cs) (decide (0 < K)) i = (if 0 < K then [44, 32] else [32]) ++ (Byt.opT c i ++ Byt.sepT cs true i) := by
  by_cases h : 0 < K <;> simp [Byt.sepT, h]
set_option maxHeartbeats 4000000 in
theorem a_insText (i : Ins) (hi : Hid (Tame i)) (o : Nat) (ho : i.op = o) (ho70 : o ≤ 70) (w : World) (ht : Hid (Tb w)) :
    Calls Tryz.prog 115 #[insV i] w fun e w' => e = .returned (Byt.strV (Byt.insT i)) ∧ Below w.heap.size w w' := by
  obtain ⟨T, hT⟩ : ∃ T, T = Byt.insT i := ⟨_, rfl⟩
  rw [← hT]
  unfold Byt.insT at hT
  rw [show i.op.toNat = o by omega] at hT
  obtain ⟨NM, hNM⟩ : ∃ x, x = Nm.name i.op := ⟨_, rfl⟩
  obtain ⟨S, hS⟩ : ∃ S, S = Nm.shape i.op := ⟨_, rfl⟩
  have hSo := shape_ok o (by omega)
  have hSs : Byt.shp o = S.data.toList.map UInt8.toNat := by rw [hS, ho]; rfl
  have hSl : S.size ≤ 8 := by rw [hS, ho]; exact hSo.1
  have hSc : Hid (∀ k (h : k < S.size), S[k].toNat = 100 ∨ S[k].toNat = 115 ∨ S[k].toNat = 116 ∨ S[k].toNat = 109 ∨ S[k].toNat = 106 ∨ S[k].toNat = 117 ∨ S[k].toNat = 105) := by rw [hS, ho]; exact hSo.2
  rw [hSs] at hT
  have hsh := short_add o (by omega)
  obtain ⟨SN, hSN⟩ : ∃ x : ByteArray, x = ⟨(99 :: 46 :: Byt.nmL o).toArray⟩ := ⟨_, rfl⟩
  have hsn := fun w => a_shortName o (by omega) w
  rw [show Byt.strV (99 :: 46 :: Byt.nmL o) = .string SN by rw [hSN]; rfl, ← ho] at hsn
  obtain ⟨X0, hX0⟩ : ∃ X : ByteArray, X = if i.ln = 2 then SN else NM := ⟨_, rfl⟩
  have hnl : (Byt.nmL o).length ≤ 20 := by have := nm_sz o (by omega); unfold Byt.nmL; rw [Array.length_toList]; exact this
  have hX0s : X0.size ≤ 40 := by
    rw [hX0]; split
    · rw [hSN]; simp [ByteArray.size]; omega
    · rw [hNM, ho]; have := nm_sz o (by omega); omega
  have hT0 : Hid (T = X0.data.toList ++ Byt.sepT ((S.data.toList.map UInt8.toNat).drop 0) (decide (0 < 0)) i) := by
    show T = _
    rw [hT, hX0]
    split
    · rw [hSN]; rfl
    · rw [hNM, ho]; rfl
  have HNM := hide1 hNM
  have HS := hide1 hS
  have HSN := hide1 hsn
  clear hT hSo hSs hsh hsn hSN hnl hNM hS ho ho70
  unfold insV
  go_enter Tryz.func115, Tryz.ntmps115
  go_wp2_with fail
  refine (a_Name i.op _).mono ?_
  rintro e w' ⟨rfl, rfl⟩
  rw [← HNM.out]
  go_upto_if 11 with fail
  go_cut [3] from 11 to 14 (fun v wx => v = .string X0 ∧ wx = w.alloc (.cells #[.int .i64 i.op, .int .i64 i.rd, .int .i64 i.rs1, .int .i64 i.rs2, .int .i64 i.im, .int .i64 i.ln] 53))
  case first =>
    by_cases h2 : i.ln = 2
    · have h2' : (i.ln == 2) = true := by simp [h2]
      rw [if_pos h2] at hX0
      have HX0 := hide1 hX0
      clear hX0 h2
      go_wp2_with (go_at_call 165; refine (HSN.out _).mono ?_; rintro e w' ⟨rfl, rfl⟩)
      go_meet
      case rel => exact ⟨by rw [HX0.out], rfl⟩
    · have h2' : (i.ln == 2) = false := by simp [h2]
      rw [if_neg h2] at hX0
      have HX0 := hide1 hX0
      clear hX0 h2
      go_wp2
      go_meet
      case rel => exact ⟨by rw [HX0.out], rfl⟩
  case rest =>
    obtain ⟨rfl, rfl⟩ := hcut
    clear hX0 HSN HNM
    go_wp2_with (go_at_call 166; refine (a_Shape i.op _).mono ?_; rintro e w' ⟨rfl, rfl⟩; rw [← HS.out])
    go_loopw [3, 5] (fun v k5 wr => ∃ (K : Nat) (X : ByteArray), K ≤ S.size ∧ X.size ≤ 40 + 60 * K ∧ v = .string X ∧ k5 = .int .i64 K ∧ Hid (Ized i w wr) ∧ Hid (T = X.data.toList ++ Byt.sepT ((S.data.toList.map UInt8.toNat).drop K) (decide (0 < K)) i)) (fun _ k5 _ => S.size - (intOf k5).toNat)
    case atStart => exact ⟨0, X0, by omega, by omega, rfl, rfl, hide1 (Ized.start i w _), hT0⟩
    case round =>
      obtain ⟨K, X, hK, hXs, rfl, rfl, hz, hh⟩ := hrel
      clear hT0 hX0s
      by_cases hlt : K < S.size
      · rw [drop_sh S K hlt, sep_cons] at hh
        obtain ⟨c, hc⟩ : ∃ c, c = S[K].toNat := ⟨_, rfl⟩
        rw [← hc] at hh
        have hcl := hSc.out K hlt
        rw [← hc] at hcl
        have hci : S[K].toNat = c := hc.symm
        have HCL := hide1 hcl
        clear hc hcl
        obtain ⟨X1, hX1⟩ : ∃ X1 : ByteArray, X1 = if 0 < K then X ++ ⟨#[44, 32]⟩ else X ++ ⟨#[32]⟩ := ⟨_, rfl⟩
        have hX1l : X1.data.toList = X.data.toList ++ (if 0 < K then [44, 32] else [32]) := by
          rw [hX1]; split <;> rw [app_list']
        have hX1s : X1.size ≤ X.size + 2 := by
          have h1 : (⟨#[44, 32]⟩ : ByteArray).size = 2 := rfl
          have h2 : (⟨#[32]⟩ : ByteArray).size = 1 := rfl
          rw [hX1]; split <;> rw [ByteArray.size_append] <;> omega
        have a1 : 0 < K → ∀ w, (Op.stringOp .add X ⟨#[44, 32]⟩).run Tryz.prog w = .ok (.string X1) w := fun hk w => add_str (a := X) (b := ⟨#[44, 32]⟩) (c := X1) (by rw [hX1, if_pos hk]) (by have h2 : (⟨#[44, 32]⟩ : ByteArray).size = 2 := rfl; rw [h2]; omega) w
        have a2 : ¬ 0 < K → ∀ w, (Op.stringOp .add X ⟨#[32]⟩).run Tryz.prog w = .ok (.string X1) w := fun hk w => add_str (a := X) (b := ⟨#[32]⟩) (c := X1) (by rw [hX1, if_neg hk]) (by have h2 : (⟨#[32]⟩ : ByteArray).size = 1 := rfl; rw [h2]; omega) w
        have A1 := hide1 a1
        have A2 := hide1 a2
        obtain ⟨Y, hY⟩ : ∃ Y : ByteArray, Y = ⟨(Byt.opT c i).toArray⟩ := ⟨_, rfl⟩
        have hYs : Y.size ≤ 50 := by rw [hY]; exact opT_len c i hi.out
        obtain ⟨X2, hX2⟩ : ∃ X2 : ByteArray, X2 = X1 ++ Y := ⟨_, rfl⟩
        have a3 : ∀ w, (Op.stringOp .add X1 Y).run Tryz.prog w = .ok (.string X2) w := fun w => add_str (a := X1) (b := Y) (c := X2) hX2.symm (by omega) w
        have hX2s : X2.size ≤ 40 + 60 * (K + 1) := by rw [hX2, ByteArray.size_append]; omega
        have hgo : Hid (T = X2.data.toList ++ Byt.sepT ((S.data.toList.map UInt8.toNat).drop (K + 1)) (decide (0 < K + 1)) i) := by
          show T = _
          rw [hh.out, hX2, app_list', hX1l, hY, decide_eq_true (Nat.succ_pos K)]
          simp only [List.append_assoc]
        have hcall := a_operandText c HCL.out i hi.out wr.drew ((ht.out.more hz.out.below).more (Below.refl _ _).drew)
        rw [show Byt.strV (Byt.opT c i) = .string Y by rw [hY]; rfl] at hcall
        have HCALL := hide1 (hcall.mono fun e w1 h => (⟨h.1, hide1 (hz.out.more ((Below.refl _ _).drew.trans h.2))⟩ : _ ∧ Hid (Ized i w w1)))
        unfold insV at HCALL
        clear hh hX1 hX1l a1 a2 hY hX2 hcall
        go_upto_if 25 with fail
        go_cut [3] from 25 to 29 (fun v wx => v = .string X1 ∧ wx = wr)
        case first =>
          by_cases hk : 0 < K
          · have e1 : ((K : Int) == 0) = false := by simp; omega
            have e2 : (K == 0) = false := by simp; omega
            have b1 := A1.out hk
            clear A1 A2 a3
            go_wp2
            go_meet
            case rel => exact ⟨rfl, rfl⟩
          · obtain rfl : K = 0 := by omega
            have b1 := A2.out hk
            clear A1 A2 a3
            go_wp2
            go_meet
            case rel => exact ⟨rfl, rfl⟩
        case rest =>
          obtain ⟨rfl, rfl⟩ := hcut
          clear A1 A2
          have z0 := hz.out.c0
          have z1 := hz.out.c1
          have z2 := hz.out.c2
          have z3 := hz.out.c3
          have z4 := hz.out.c4
          have z5 := hz.out.c5
          go_upto_region 11 with fail
          go_region_with (go_at_call 167; with_reducible refine HCALL.out.mono ?_; rintro e w1 ⟨rfl, hz1⟩)
          all_goals clear z0 z1 z2 z3 z4 z5 HCALL a3 hz
          all_goals go_wp2
          all_goals go_roundw
          all_goals first
            | exact ⟨K + 1, X2, by omega, hX2s, rfl, by go_num, hz1, hgo⟩
            | (simp [intOf]; omega)
            | ((repeat apply Exists.intro); exact ⟨⟨K + 1, X2, by omega, hX2s, rfl, by go_num, hz1, hgo⟩, rfl⟩)
      · have hlt' : decide ((K : Int) < (S.size : Int)) = false := by simp; omega
        have hgo : Hid (T = X.data.toList) := by
          show T = _
          rw [hh.out, List.drop_eq_nil_of_le (by rw [List.length_map, Array.length_toList]; show S.size ≤ K; omega)]; simp [Byt.sepT]
        clear hh
        go_wp2
        go_ret
        exact ⟨by rw [hgo.out]; unfold Byt.strV; rw [mk_list]; rfl, hz.out.below⟩
set_option maxHeartbeats 2000000 in
theorem a_Text (x : Int) (hx : Hid ((decodeD x).2 = 0 → Tame (decodeD x).1 ∧ 0 ≤ (decodeD x).1.op ∧ (decodeD x).1.op ≤ 70 ∧ 0 ≤ x ∧ x ≤ 4294967295)) (w : World) (ht : Hid (Tb w)) :
    Calls Tryz.prog 72 #[.int .i64 x] w fun e w' => e = .returned (.tuple #[Byt.strV (Byt.textD x).1, .int .i64 (Byt.textD x).2]) ∧ Below w.heap.size w w' := by
  obtain ⟨T, hT⟩ : ∃ T, T = Byt.textD x := ⟨_, rfl⟩
  rw [← hT]
  unfold Byt.textD at hT
  have hdec := i_Decode x w
  obtain ⟨D, hD⟩ : ∃ D, D = decodeD x := ⟨_, rfl⟩
  rw [← hD] at hdec hT hx
  have HDEC := hide1 hdec
  clear hdec hD
  obtain ⟨i, er⟩ := D
  simp only at hT hx
  unfold insV at HDEC
  by_cases her : er = 0
  · have her' : (er != 0) = false := by simp [her]
    rw [if_pos her] at hT
    obtain ⟨hi, ho0, ho70, hx0, hx1⟩ := hx.out her
    obtain ⟨o, ho⟩ : ∃ o : Nat, i.op = o := ⟨i.op.toNat, by omega⟩
    have hit := fun W hW => a_insText i (hide1 hi) o ho (by omega) W hW
    have hdt := fun W hW => a_dataText x (by omega) (by omega) i.ln W hW
    have henc := fun W => i_Encode i W
    obtain ⟨V, hV⟩ : ∃ V, V = encodeD i := ⟨_, rfl⟩
    rw [← hV] at henc hT
    obtain ⟨A, hA⟩ : ∃ A, A = Byt.strV (Byt.insT i) := ⟨_, rfl⟩
    obtain ⟨B, hB⟩ : ∃ B, B = Byt.strV (Byt.nmL (if i.ln = 2 then 72 else 71) ++ 32 :: Lib.itoa x) := ⟨_, rfl⟩
    rw [← hA] at hit
    rw [← hB] at hdt
    have HIT := hide1 hit
    have HDT := hide1 hdt
    have HENC := hide1 henc
    have HA := hide1 hA
    have HB := hide1 hB
    unfold insV at HIT HENC
    clear hit hdt henc hV hA hB hi ho0 ho70 hx her ho
    obtain ⟨v, no⟩ := V
    simp only at hT
    go_enter Tryz.func72, Tryz.ntmps72
    go_wp2_with fail
    refine HDEC.out.mono ?_
    rintro e w1 ⟨rfl, hb1⟩
    clear HDEC
    have hz1 : Ized i w1 (w1.alloc (.cells #[.int .i64 i.op, .int .i64 i.rd, .int .i64 i.rs1, .int .i64 i.rs2, .int .i64 i.im, .int .i64 i.ln] 53)) := Ized.start i w1 _
    have HZ1 := hide1 hz1
    clear hz1
    go_wp2_with fail
    refine (HENC.out _).mono ?_
    rintro e w2 ⟨rfl, hb2⟩
    have hz2 := HZ1.out.more hb2
    have z0 := hz2.c0
    have z1 := hz2.c1
    have z2 := hz2.c2
    have z3 := hz2.c3
    have z4 := hz2.c4
    have z5 := hz2.c5
    have hb12 := hide1 (hb1.trans (hz2.below.mono hb1.size))
    have ht2 := hide1 (ht.out.more hb12.out)
    clear HZ1 hz2 hb1 hb2 HENC
    by_cases hno : no = 0
    · have hno' : (no != 0) = false := by simp [hno]
      by_cases hv : v = x
      · have hv' : (v != x) = false := by simp [hv]
        rw [if_pos ⟨hno, hv⟩] at hT
        have HT := hide1 hT
        clear hT hno
        have hv2 := hide1 hv
        clear hv
        go_wp2_with (go_at_call 115; refine (HIT.out _ ht2).mono ?_; rintro e w3 ⟨rfl, hb3⟩)
        go_ret2
        exact ⟨by rw [HT.out, HA.out]; rfl, hb12.out.trans (hb3.mono hb12.out.size)⟩
      · have hv' : (v != x) = true := by simp [hv]
        rw [if_neg (fun h => hv h.2)] at hT
        have HT := hide1 hT
        clear hT hno hv
        go_wp2_with (go_at_call 114; refine (HDT.out _ ht2.out).mono ?_; rintro e w3 ⟨rfl, hb3⟩)
        go_ret2
        exact ⟨by rw [HT.out, HB.out]; rfl, hb12.out.trans (hb3.mono hb12.out.size)⟩
    · have hno' : (no != 0) = true := by simp [hno]
      rw [if_neg (fun h => hno h.1)] at hT
      have HT := hide1 hT
      clear hT hno
      go_wp2_with (go_at_call 114; refine (HDT.out _ ht2.out).mono ?_; rintro e w3 ⟨rfl, hb3⟩)
      go_ret2
      exact ⟨by rw [HT.out, HB.out]; rfl, hb12.out.trans (hb3.mono hb12.out.size)⟩
  · have her' : (er != 0) = true := by simp [her]
    rw [if_neg her] at hT
    have HT := hide1 hT
    clear hT her
    go_enter Tryz.func72, Tryz.ntmps72
    go_wp2_with fail
    refine HDEC.out.mono ?_
    rintro e w1 ⟨rfl, hb1⟩
    go_wp2
    go_ret2
    exact ⟨by rw [HT.out]; rfl, hb1.alloc hb1.size _⟩
end Go.Proofs.YthfofjkfbhahoaaGreatDoor
end
