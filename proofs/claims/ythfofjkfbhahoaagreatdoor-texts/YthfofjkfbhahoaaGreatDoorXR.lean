import Derived.Test.YthfofjkfbhahoaaGreatDoorXP
import Derived.Test.YthfofjkfbhahoaaGreatDoorXB
import Derived.Test.YthfofjkfbhahoaaGreatDoorXA
section
namespace Go.Proofs.YthfofjkfbhahoaaGreatDoor
open Go.RowKit
set_option linter.unusedSimpArgs false
namespace Byt
/-- how many line ends -/
def nls : List UInt8 → Nat
  | [] => 0
  | c :: l => (if c.toNat = 10 then 1 else 0) + nls l
theorem nls_le : ∀ l, nls l ≤ l.length
  | [] => Nat.le_refl _
  | c :: l => by have := nls_le l; simp only [nls, List.length_cons]; split <;> omega
/-- which line has a name; how many lines there are, if none has it -/
def findN : List Ln → List UInt8 → Nat
  | [], _ => 0
  | l :: L, n => if l.nm = n then 0 else findN L n + 1
theorem findN_le : ∀ L n, findN L n ≤ L.length
  | [], _ => Nat.le_refl _
  | l :: L, n => by have := findN_le L n; simp only [findN, List.length_cons]; split <;> omega
def shp (op : Nat) : List Nat := (Nm.shape op).data.toList.map UInt8.toNat
/-- a line behind its name -/
def readR (nm : List UInt8) (T : List (List UInt8)) : Int × Ln :=
  match T with
  | [] => (0, ⟨nm, ins0, []⟩)
  | t :: T => if (wrd t).2 = 0 then (5, ln0) else
    match opsP (shp (wrd t).1) false ⟨(wrd t).1, 0, 0, 0, 0, (wrd t).2⟩ [] T with
    | none => (6, ln0)
    | some (i, g) => (0, ⟨nm, i, g⟩)
/-- what a line's tokens say behind the earlier lines -/
def readLn (T : List (List UInt8)) (E : List Ln) : Int × Ln :=
  if 1 < T.length ∧ T[1]?.getD [] = [58] then
    if isName (T[0]?.getD []) = true then
      if findN E (T[0]?.getD []) < E.length then (9, ln0) else readR (T[0]?.getD []) (T.drop 2)
    else (5, ln0)
  else readR [] T
/-- a text, cut at its line ends -/
def segs (pre : List UInt8) : List UInt8 → List (List UInt8)
  | [] => [pre]
  | c :: l => if c.toNat = 10 then pre :: segs [] l else segs (pre ++ [c]) l
/-- the lines, the error, the line that meets it -/
def readAll : List Ln → List (List UInt8) → List Ln × Int × Nat
  | E, [] => (E, 0, 0)
  | E, t :: ts => if (readLn (tok t.length t) E).1 = 0 then readAll (E ++ [(readLn (tok t.length t) E).2]) ts else ([], (readLn (tok t.length t) E).1, E.length + 1)
/-- the bytes ahead of a line's word -/
def place : List Ln → Nat → Int
  | [], _ => 0
  | _, 0 => 0
  | l :: L, n + 1 => l.i.ln + place L n
def dataD (v least most : Int) : Int × Int := if v < least ∨ most < v then (0, 7) else (v, 0)
def wordD (i : Ins) : Int × Int :=
  if i.ln = 0 then (0, 0) else if i.op = 71 then dataD i.im (-2147483648) 4294967295 else if i.op = 72 then dataD i.im (-32768) 65535 else
  if (encodeD i).2 = 0 then ((encodeD i).1, 0) else (0, 7)
def leB (v : Int) (n : Nat) : List UInt8 := (strOfNums (leL v n)).data.toList
/-- the line's instruction, its way found -/
def aimed (L : List Ln) (l : Ln) (n : Nat) : Ins := if l.tg = [] then l.i else { l.i with im := place L (findN L l.tg) - n }
def lay (L : List Ln) : List Ln → Nat → List UInt8 → List UInt8 × Int × Nat
  | [], _, m => (m, 0, 0)
  | l :: ls, k, m =>
    if l.tg ≠ [] ∧ findN L l.tg = L.length then ([], 8, k + 1) else
    if (wordD (aimed L l m.length)).2 = 0 then lay L ls (k + 1) (m ++ leB (wordD (aimed L l m.length)).1 l.i.ln.toNat) else ([], (wordD (aimed L l m.length)).2, k + 1)
/-- the image, the error, the line -/
def asmD (t : List UInt8) : List UInt8 × Int × Nat :=
  if 4096 < t.length then ([], 1, 0) else if 256 < 1 + nls t then ([], 4, 0) else
  if (readAll [] (segs [] t)).2.1 = 0 then lay (readAll [] (segs [] t)).1 (readAll [] (segs [] t)).1 0 [] else ([], (readAll [] (segs [] t)).2.1, (readAll [] (segs [] t)).2.2)
end Byt
set_option maxHeartbeats 400000 in
theorem a_countLines (s : ByteArray) (hs : s.size ≤ 5000) (w : World) :
    Calls Tryz.prog 100 #[.string s] w fun e w' => e = .returned (.int .i64 ((1 + Byt.nls s.data.toList : Nat) : Int)) ∧ w' = w := by
  obtain ⟨T, hT⟩ : ∃ T, T = 1 + Byt.nls s.data.toList := ⟨_, rfl⟩
  rw [← hT]
  have HT := hide1 hT
  clear hT
  go_enter Tryz.func100, Tryz.ntmps100
  go_wp2
  go_loop [3, 4] (fun c d => ∃ a n : Nat, a ≤ s.size ∧ n ≤ 1 + a ∧ c = .int .i64 n ∧ d = .int .i64 a ∧ Hid (T = n + Byt.nls (s.data.toList.drop a))) (fun _ d => s.size - (intOf d).toNat)
  case atStart => exact ⟨0, 1, by omega, by omega, rfl, rfl, HT⟩
  case round =>
    obtain ⟨a, n, ha, hn, rfl, rfl, hh⟩ := hrel
    by_cases hlt : a < s.size
    · have hv : T = n + ((if s[a].toNat = 10 then 1 else 0) + Byt.nls (s.data.toList.drop (a + 1))) := by rw [hh.out, dropb s a hlt]; rfl
      by_cases hc : s[a].toNat = 10
      · have hc' : ((s[a].toNat : Int) == 10) = true := by simp; omega
        rw [if_pos hc] at hv
        have HV := hide1 hv
        clear hv hh HT hc
        go_wp2
        go_round
        case rel => exact ⟨a + 1, n + 1, by omega, by omega, by go_num, by go_num, by show T = _; rw [HV.out]; omega⟩
        case measure => simp [intOf]; omega
      · have hc' : ((s[a].toNat : Int) == 10) = false := by simp; omega
        rw [if_neg hc] at hv
        have HV := hide1 hv
        clear hv hh HT hc
        go_wp2
        go_round
        case rel => exact ⟨a + 1, n, by omega, by omega, rfl, by go_num, by show T = _; rw [HV.out]; omega⟩
        case measure => simp [intOf]; omega
    · have hlt' : decide ((a : Int) < (s.size : Int)) = false := by simp; omega
      have hT : Hid (T = n) := (by rw [hh.out, List.drop_eq_nil_of_le (by simp; omega)]; rfl : T = n)
      clear hh HT
      go_wp2
      go_ret
      exact ⟨by rw [hT.out]; rfl, rfl⟩
/-- a line's cells -/
structure Cx (w : World) (b o : Nat) (l : Ln) : Prop where
  c0 : w.cell? ⟨b, o, none⟩ = some (.string ⟨l.nm.toArray⟩)
  c1 : w.cell? ⟨b, o + 1, none⟩ = some (.int .i64 l.i.op)
  c2 : w.cell? ⟨b, o + 2, none⟩ = some (.int .i64 l.i.rd)
  c3 : w.cell? ⟨b, o + 3, none⟩ = some (.int .i64 l.i.rs1)
  c4 : w.cell? ⟨b, o + 4, none⟩ = some (.int .i64 l.i.rs2)
  c5 : w.cell? ⟨b, o + 5, none⟩ = some (.int .i64 l.i.im)
  c6 : w.cell? ⟨b, o + 6, none⟩ = some (.int .i64 l.i.ln)
  c7 : w.cell? ⟨b, o + 7, none⟩ = some (.string ⟨l.tg.toArray⟩)
/-- the lines of a slice: nothing is asked where there is none -/
def LnsAt (w : World) (p : Option Addr) (L : List Ln) : Prop := L = [] ∨ ∃ b, p = some ⟨b, 0, none⟩ ∧ ∀ j (h : j < L.length), Cx w b (j * 8) L[j]
theorem findN_drop (L : List Ln) (n : List UInt8) (a : Nat) (h : a < L.length) : a + Byt.findN (L.drop a) n = if L[a].nm = n then a else (a + 1) + Byt.findN (L.drop (a + 1)) n := by
  rw [List.drop_eq_getElem_cons h]; simp only [Byt.findN]; split <;> omega
set_option maxHeartbeats 1000000 in
theorem a_findName (p : Option Addr) (cap : Nat) (L : List Ln) (hL : L.length ≤ 5000) (s : ByteArray) (w : World) (hw : Hid (LnsAt w p L)) :
    Calls Tryz.prog 147 #[.slice p L.length cap, .string s] w fun e w' => e = .returned (.int .i64 (Byt.findN L s.data.toList)) ∧ w' = w := by
  obtain ⟨T, hT⟩ : ∃ T, T = Byt.findN L s.data.toList := ⟨_, rfl⟩
  rw [← hT]
  have HT := hide1 hT
  clear hT
  go_enter Tryz.func147, Tryz.ntmps147
  go_wp2
  go_loop [5] (fun d => ∃ a : Nat, a ≤ L.length ∧ d = .int .i64 a ∧ Hid (T = a + Byt.findN (L.drop a) s.data.toList)) (fun d => L.length - (intOf d).toNat)
  case atStart => exact ⟨0, by omega, rfl, by simpa using HT⟩
  case round =>
    obtain ⟨a, ha, rfl, hh⟩ := hrel
    by_cases hlt : a < L.length
    · rcases hw.out with h0 | ⟨b, rfl, hcx⟩
      · rw [h0] at hlt; simp at hlt
      have h0 := (hcx a hlt).c0
      rw [findN_drop L _ a hlt] at hh
      clear hcx hw HT
      obtain ⟨X, hX⟩ : ∃ X : ByteArray, X = ⟨L[a].nm.toArray⟩ := ⟨_, rfl⟩
      have he := eq_str s X _ hX
      rw [← hX] at h0
      by_cases hc : s.data.toList = L[a].nm
      · rw [if_pos hc.symm] at hh
        rw [decide_eq_true hc] at he
        have he' : (X.toList == s.toList) = true := by rw [beq_iff_eq] at he ⊢; exact he.symm
        clear hc hX he
        go_wp2
        go_ret
        exact ⟨by rw [hh.out]; rfl, rfl⟩
      · rw [if_neg (fun h => hc h.symm)] at hh
        rw [decide_eq_false hc] at he
        have he' : (X.toList == s.toList) = false := by rw [beq_eq_false_iff_ne] at he ⊢; exact fun h => he h.symm
        clear hc hX he
        go_wp2
        go_round
        case rel => exact ⟨a + 1, by omega, by go_num, hh⟩
        case measure => simp [intOf]; omega
    · have hT : Hid (T = L.length) := (by rw [hh.out, List.drop_eq_nil_of_le (by omega)]; simp [Byt.findN]; omega : T = L.length)
      clear hh HT hw
      go_wp2
      go_ret
      exact ⟨by rw [hT.out]; rfl, rfl⟩
theorem place_drop (L : List Ln) (n a : Nat) (h1 : a < L.length) (h2 : a < n) : Byt.place (L.drop a) (n - a) = L[a].i.ln + Byt.place (L.drop (a + 1)) (n - (a + 1)) := by
  rw [List.drop_eq_getElem_cons h1, show n - a = (n - (a + 1)) + 1 by omega]; rfl
def Tidy (L : List Ln) : Prop := ∀ l ∈ L, l.i.ln = 0 ∨ l.i.ln = 2 ∨ l.i.ln = 4
set_option maxHeartbeats 1000000 in
theorem a_placeOf (p : Option Addr) (cap : Nat) (L : List Ln) (hL : L.length ≤ 5000) (hd : Hid (Tidy L)) (n : Nat) (hn : n ≤ 5000) (w : World) (hw : Hid (LnsAt w p L)) :
    Calls Tryz.prog 148 #[.slice p L.length cap, .int .i64 n] w fun e w' => e = .returned (.int .i64 (Byt.place L n)) ∧ w' = w := by
  obtain ⟨T, hT⟩ : ∃ T, T = Byt.place L n := ⟨_, rfl⟩
  rw [← hT]
  have HT := hide1 hT
  clear hT
  go_enter Tryz.func148, Tryz.ntmps148
  go_wp2
  go_loop [5, 6] (fun c d => ∃ (a : Nat) (q : Nat), a ≤ L.length ∧ a ≤ n ∧ q ≤ 4 * a ∧ c = .int .i64 q ∧ d = .int .i64 a ∧ Hid (T = q + Byt.place (L.drop a) (n - a))) (fun _ d => L.length - (intOf d).toNat)
  case atStart => exact ⟨0, 0, by omega, by omega, by omega, rfl, rfl, by simpa using HT⟩
  case round =>
    obtain ⟨a, q, ha, han, hq, rfl, rfl, hh⟩ := hrel
    by_cases hlt : a < L.length
    · by_cases hln : a < n
      · rcases hw.out with h0 | ⟨b, rfl, hcx⟩
        · rw [h0] at hlt; simp at hlt
        have h0 := (hcx a hlt).c6
        rw [place_drop L n a hlt hln] at hh
        have hz := hd.out L[a] (List.getElem_mem hlt)
        obtain ⟨z, hz', hz4⟩ : ∃ z : Nat, L[a].i.ln = z ∧ z ≤ 4 := ⟨L[a].i.ln.toNat, by omega, by omega⟩
        rw [hz'] at h0 hh
        clear hcx hw HT hd hz hz'
        go_wp2
        go_round
        case rel => exact ⟨a + 1, q + z, by omega, by omega, by omega, by go_num, by go_num, by show T = _; rw [hh.out]; simp; omega⟩
        case measure => simp [intOf]; omega
      · have hT : Hid (T = q) := (by rw [hh.out, show n - a = 0 by omega]; cases L.drop a <;> simp [Byt.place] : T = q)
        clear hh HT hw hd
        go_wp2
        go_ret
        exact ⟨by rw [hT.out]; rfl, rfl⟩
    · have hT : Hid (T = q) := (by rw [hh.out, List.drop_eq_nil_of_le (by omega)]; simp [Byt.place] : T = q)
      clear hh HT hw hd
      go_wp2
      all_goals go_ret
      all_goals exact ⟨by rw [hT.out]; rfl, rfl⟩
set_option maxHeartbeats 400000 in
theorem a_dataOf (v a b : Int) (w : World) :
    Calls Tryz.prog 198 #[.int .i64 v, .int .i64 a, .int .i64 b] w fun e w' => e = .returned (.tuple #[.int .i64 (if v < a ∨ b < v then 0 else v), .int .i64 (if v < a ∨ b < v then 7 else 0)]) ∧ w' = w := by
  by_cases h1 : v < a
  · rw [if_pos (Or.inl h1), if_pos (Or.inl h1)]
    go_enter Tryz.func198, Tryz.ntmps198
    go_wp2
    go_ret2
    exact ⟨rfl, rfl⟩
  · by_cases h2 : b < v
    · rw [if_pos (Or.inr h2), if_pos (Or.inr h2)]
      go_enter Tryz.func198, Tryz.ntmps198
      go_wp2
      go_ret2
      exact ⟨rfl, rfl⟩
    · rw [if_neg (by omega), if_neg (by omega)]
      go_enter Tryz.func198, Tryz.ntmps198
      go_wp2
      go_ret2
      exact ⟨rfl, rfl⟩
end Go.Proofs.YthfofjkfbhahoaaGreatDoor
end
section
namespace Go.Proofs.YthfofjkfbhahoaaGreatDoor
open Go.RowKit
set_option linter.unusedSimpArgs false
theorem rowCount_ok (n : Int) : (rowCount n).toNat ≤ 70 ∧ ((rowCount n).toNat : Int) = rowCount n := by
  unfold rowCount
  cases (n == 4) <;> cases (n == 2) <;> decide
theorem i_Encode (i : Ins) (w : World) :
    Calls Tryz.prog 70 #[insV i] w fun e w' => e = .returned (.tuple #[.int .i64 (encodeD i).1, .int .i64 (encodeD i).2]) ∧ Below w.heap.size w w' := by
  refine (i_Encode' i (rowCount i.ln).toNat (rowCount_ok _).1 (rowCount_ok _).2 w).mono ?_
  rintro e w' ⟨⟨st, hst, rfl⟩, hb⟩
  refine ⟨?_, hb⟩
  unfold encodeD
  rw [← hst.out]
  cases st <;> rfl
set_option maxHeartbeats 1000000 in
theorem a_wordOf (i : Ins) (w : World) :
    Calls Tryz.prog 149 #[insV i] w fun e w' => e = .returned (.tuple #[.int .i64 (Byt.wordD i).1, .int .i64 (Byt.wordD i).2]) ∧ Below w.heap.size w w' := by
  unfold Byt.wordD insV
  by_cases h0 : i.ln = 0
  · rw [if_pos h0]
    have h0' : (i.ln == 0) = true := by simp [h0]
    go_enter Tryz.func149, Tryz.ntmps149
    go_wp2
    go_ret2
    exact ⟨rfl, (Below.refl _ _).alloc (Nat.le_refl _) _⟩
  rw [if_neg h0]
  have h0' : (i.ln == 0) = false := by simp [h0]
  by_cases h1 : i.op = 71
  · rw [if_pos h1]
    have h1' : (i.op == 71) = true := by simp [h1]
    unfold Byt.dataD
    have hd := fun w => a_dataOf i.im (-2147483648) 4294967295 w
    obtain ⟨V, hV⟩ : ∃ V, V = if i.im < -2147483648 ∨ 4294967295 < i.im then (0, 7) else (i.im, (0 : Int)) := ⟨_, rfl⟩
    rw [← hV]
    have e1 : (if i.im < -2147483648 ∨ 4294967295 < i.im then 0 else i.im) = V.1 := by rw [hV]; split <;> rfl
    have e2 : (if i.im < -2147483648 ∨ 4294967295 < i.im then (7 : Int) else 0) = V.2 := by rw [hV]; split <;> rfl
    rw [e1, e2] at hd
    have HD := hide1 hd
    clear hd hV e1 e2 h0 h1
    go_enter Tryz.func149, Tryz.ntmps149
    go_wp2_with (go_at_call 198; refine (HD.out _).mono ?_; rintro e w' ⟨rfl, rfl⟩)
    go_ret2
    exact ⟨rfl, (Below.refl _ _).alloc (Nat.le_refl _) _⟩
  rw [if_neg h1]
  have h1' : (i.op == 71) = false := by simp [h1]
  by_cases h2 : i.op = 72
  · rw [if_pos h2]
    have h2' : (i.op == 72) = true := by simp [h2]
    unfold Byt.dataD
    have hd := fun w => a_dataOf i.im (-32768) 65535 w
    obtain ⟨V, hV⟩ : ∃ V, V = if i.im < -32768 ∨ 65535 < i.im then (0, 7) else (i.im, (0 : Int)) := ⟨_, rfl⟩
    rw [← hV]
    have e1 : (if i.im < -32768 ∨ 65535 < i.im then 0 else i.im) = V.1 := by rw [hV]; split <;> rfl
    have e2 : (if i.im < -32768 ∨ 65535 < i.im then (7 : Int) else 0) = V.2 := by rw [hV]; split <;> rfl
    rw [e1, e2] at hd
    have HD := hide1 hd
    clear hd hV e1 e2 h0 h1 h2
    go_enter Tryz.func149, Tryz.ntmps149
    go_wp2_with (go_at_call 198; refine (HD.out _).mono ?_; rintro e w' ⟨rfl, rfl⟩)
    go_ret2
    exact ⟨rfl, (Below.refl _ _).alloc (Nat.le_refl _) _⟩
  rw [if_neg h2]
  have h2' : (i.op == 72) = false := by simp [h2]
  have he := i_Encode i
  unfold insV at he
  obtain ⟨V, hV⟩ : ∃ V, V = encodeD i := ⟨_, rfl⟩
  rw [← hV] at he ⊢
  have HE := hide1 he
  clear he hV h0 h1 h2
  by_cases hv : V.2 = 0
  · rw [if_pos hv]
    have hv' : (V.2 != 0) = false := by simp [hv]
    go_enter Tryz.func149, Tryz.ntmps149
    go_wp2_with (go_at_call 70; refine (HE.out _).mono ?_; rintro e w' ⟨rfl, hb⟩)
    go_ret2
    exact ⟨rfl, ((Below.refl _ _).alloc (Nat.le_refl _) _).trans (hb.mono (by simp))⟩
  · rw [if_neg hv]
    have hv' : (V.2 != 0) = true := by simp [hv]
    go_enter Tryz.func149, Tryz.ntmps149
    go_wp2_with (go_at_call 70; refine (HE.out _).mono ?_; rintro e w' ⟨rfl, hb⟩)
    go_ret2
    exact ⟨rfl, ((Below.refl _ _).alloc (Nat.le_refl _) _).trans (hb.mono (by simp))⟩
end Go.Proofs.YthfofjkfbhahoaaGreatDoor
end
