import Derived.Test.YthfofjkfbhahoaaGreatDoorXN
import Derived.Test.YthfofjkfbhahoaaGreatDoorXL
section
namespace Go.Proofs.YthfofjkfbhahoaaGreatDoor
open Go.RowKit
set_option linter.unusedSimpArgs false
namespace Byt
/-- an instruction's name -/
def nmL (op : Nat) : List UInt8 := (Nm.name op).data.toList
/-- the instruction that a token names, and the bytes of its word, looked for from op on -/
def wrdFrom (t : List UInt8) : Nat → Nat → Nat × Nat
  | 0, _ => (0, 0)
  | f + 1, op => if t = nmL op then (op, 4) else if t = 99 :: 46 :: nmL op then (op, 2) else wrdFrom t f (op + 1)
def wrd (t : List UInt8) : Nat × Nat := if t = nmL 71 then (71, 4) else if t = nmL 72 then (72, 2) else wrdFrom t 70 1
end Byt
theorem nm_size : ((List.range 73).all fun n => decide ((Nm.name n).size ≤ 20)) = true := by decide +kernel
theorem nm_sz (n : Nat) (h : n ≤ 72) : (Nm.name n).size ≤ 20 := by
  have := List.all_eq_true.1 nm_size n (by simp; omega)
  rwa [decide_eq_true_eq] at this
theorem mk_list (s : ByteArray) : (⟨s.data.toList.toArray⟩ : ByteArray) = s := by cases s; simp
theorem short_add (n : Nat) (h : n ≤ 72) (w : World) : (Op.stringOp .add ⟨#[99, 46]⟩ (Nm.name n)).run Tryz.prog w = .ok (Byt.strV (99 :: 46 :: Byt.nmL n)) w := by
  refine add_str (a := ⟨#[99, 46]⟩) (b := Nm.name n) (c := ⟨(99 :: 46 :: Byt.nmL n).toArray⟩) ?_ (by have := nm_sz n h; have h2 : (⟨#[99, 46]⟩ : ByteArray).size = 2 := rfl; rw [h2]; omega) w
  have h := mk_app [99, 46] (Nm.name n).data.toList
  rw [mk_list] at h
  exact h
set_option maxHeartbeats 400000 in
theorem a_shortName (n : Nat) (hn : n ≤ 72) (w : World) :
    Calls Tryz.prog 165 #[.int .i64 n] w fun e w' => e = .returned (Byt.strV (99 :: 46 :: Byt.nmL n)) ∧ w' = w := by
  obtain ⟨D, hD⟩ : ∃ D, D = Nm.name n := ⟨_, rfl⟩
  have hadd := short_add n hn
  rw [← hD] at hadd
  have HD := hide1 hD
  clear hD
  go_enter Tryz.func165, Tryz.ntmps165
  go_wp2_with (go_at_call 163; refine (a_Name n _).mono ?_; rintro e w' ⟨rfl, rfl⟩; rw [← HD.out])
  go_ret
  exact ⟨rfl, rfl⟩
theorem eq_nm (s X : ByteArray) : (s.toList == X.toList) = decide (s.data.toList = X.data.toList) := by
  rw [Lib.toList_data, Lib.toList_data, Bool.eq_iff_iff]; simp
set_option maxHeartbeats 1000000 in
theorem a_readWord (s : ByteArray) (w : World) :
    Calls Tryz.prog 196 #[.string s] w fun e w' => e = .returned (.tuple #[.int .i64 (Byt.wrd s.data.toList).1, .int .i64 (Byt.wrd s.data.toList).2]) ∧ w' = w := by
  obtain ⟨T, hT⟩ : ∃ T, T = Byt.wrd s.data.toList := ⟨_, rfl⟩
  rw [← hT]
  unfold Byt.wrd at hT
  obtain ⟨W1, hW1⟩ : ∃ X, X = Nm.name 71 := ⟨_, rfl⟩
  obtain ⟨W2, hW2⟩ : ∃ X, X = Nm.name 72 := ⟨_, rfl⟩
  have he1 := eq_nm s W1
  have he2 := eq_nm s W2
  rw [hW1] at he1
  rw [hW2] at he2
  change _ = decide (s.data.toList = Byt.nmL 71) at he1
  change _ = decide (s.data.toList = Byt.nmL 72) at he2
  rw [← hW1] at he1
  rw [← hW2] at he2
  have H1 := hide1 hW1
  have H2 := hide1 hW2
  clear hW1 hW2
  by_cases c1 : s.data.toList = Byt.nmL 71
  · rw [if_pos c1] at hT
    rw [decide_eq_true c1] at he1
    subst hT
    clear c1 he2
    go_enter Tryz.func196, Tryz.ntmps196
    go_wp2_with (go_at_call 163; refine (a_Name 71 _).mono ?_; rintro e w' ⟨rfl, rfl⟩; rw [← H1.out])
    go_ret2
    exact ⟨rfl, rfl⟩
  · rw [if_neg c1] at hT
    rw [decide_eq_false c1] at he1
    by_cases c2 : s.data.toList = Byt.nmL 72
    · rw [if_pos c2] at hT
      rw [decide_eq_true c2] at he2
      subst hT
      clear c1 c2
      go_enter Tryz.func196, Tryz.ntmps196
      go_wp2_with (go_at_call 163; refine (a_Name _ _).mono ?_; rintro e w' ⟨rfl, rfl⟩; first | rw [← H1.out] | rw [← H2.out])
      go_ret2
      exact ⟨rfl, rfl⟩
    · rw [if_neg c2] at hT
      rw [decide_eq_false c2] at he2
      have HT := hide1 hT
      clear c1 c2 hT
      go_enter Tryz.func196, Tryz.ntmps196
      go_wp2_with (go_at_call 163; refine (a_Name _ _).mono ?_; rintro e w' ⟨rfl, rfl⟩; first | rw [← H1.out] | rw [← H2.out])
      clear he1 he2 H1 H2
      go_loop [4] (fun d => ∃ i : Nat, 1 ≤ i ∧ i ≤ 71 ∧ d = .int .i64 i ∧ Hid (T = Byt.wrdFrom s.data.toList (71 - i) i)) (fun d => 71 - (intOf d).toNat)
      case atStart => exact ⟨1, by omega, by omega, rfl, HT⟩
      case round =>
        obtain ⟨i, hi1, hi0, rfl, hh⟩ := hrel
        by_cases hi : i < 71
        · obtain ⟨X, hX⟩ : ∃ X : ByteArray, X = Nm.name i := ⟨_, rfl⟩
          obtain ⟨Y, hY⟩ : ∃ X : ByteArray, X = ⟨(99 :: 46 :: Byt.nmL i).toArray⟩ := ⟨_, rfl⟩
          have hY' : Byt.strV (99 :: 46 :: Byt.nmL i) = .string Y := by rw [hY]; rfl
          have he1 : (s.toList == X.toList) = decide (s.data.toList = Byt.nmL i) := by rw [hX]; exact eq_nm s _
          have he2 := eq_str s Y _ hY
          have hv : T = if s.data.toList = Byt.nmL i then (i, 4) else if s.data.toList = 99 :: 46 :: Byt.nmL i then (i, 2) else Byt.wrdFrom s.data.toList (71 - (i + 1)) (i + 1) := by
            rw [hh.out, show 71 - i = (71 - (i + 1)) + 1 by omega]; rfl
          have HX := hide1 hX
          have HY := hide1 hY'
          clear hX hY hY'
          by_cases c1 : s.data.toList = Byt.nmL i
          · rw [if_pos c1] at hv
            rw [decide_eq_true c1] at he1
            have HV := hide1 hv
            clear hv hh HT he2 c1
            go_wp2_with (go_at_call 163; refine (a_Name i _).mono ?_; rintro e w' ⟨rfl, rfl⟩; rw [← HX.out])
            go_ret2
            exact ⟨by rw [HV.out]; rfl, rfl⟩
          · rw [if_neg c1] at hv
            rw [decide_eq_false c1] at he1
            by_cases c2 : s.data.toList = 99 :: 46 :: Byt.nmL i
            · rw [if_pos c2] at hv
              rw [decide_eq_true c2] at he2
              have HV := hide1 hv
              clear hv hh HT c1 c2
              go_wp2_with (first | (go_at_call 163; refine (a_Name i _).mono ?_; rintro e w' ⟨rfl, rfl⟩; rw [← HX.out]) | (go_at_call 165; refine (a_shortName i (by omega) _).mono ?_; rintro e w' ⟨rfl, rfl⟩; rw [HY.out]))
              go_ret2
              exact ⟨by rw [HV.out]; rfl, rfl⟩
            · rw [if_neg c2] at hv
              rw [decide_eq_false c2] at he2
              have HV := hide1 hv
              clear hv hh HT c1 c2
              go_wp2_with (first | (go_at_call 163; refine (a_Name i _).mono ?_; rintro e w' ⟨rfl, rfl⟩; rw [← HX.out]) | (go_at_call 165; refine (a_shortName i (by omega) _).mono ?_; rintro e w' ⟨rfl, rfl⟩; rw [HY.out]))
              go_round
              case rel => exact ⟨i + 1, by omega, by omega, by go_num, HV⟩
              case measure => simp [intOf]; omega
        · obtain rfl : i = 71 := by omega
          have hT : Hid (T = (0, 0)) := hh
          clear hh HT
          go_wp2
          go_ret2
          exact ⟨by rw [hT.out]; rfl, rfl⟩
end Go.Proofs.YthfofjkfbhahoaaGreatDoor
end
section
namespace Go.Proofs.YthfofjkfbhahoaaGreatDoor
open Go.RowKit
set_option linter.unusedSimpArgs false
namespace Byt
def wrdR (t : List UInt8) : Nat → Nat → Nat × Nat
  | 0, _ => (0, 0)
  | f + 1, op => if t = nmL op then (op, if op = 72 then 2 else 4) else if t = 99 :: 46 :: nmL op ∧ op ≤ 70 then (op, 2) else wrdR t f (op + 1)
end Byt
theorem wrdR_step (t : List UInt8) : ∀ (f op : Nat), 1 ≤ op → op + f = 71 → Byt.wrdR t (f + 2) op = if Byt.wrdFrom t f op = (0, 0) then Byt.wrdR t 2 71 else Byt.wrdFrom t f op
  | 0, op, h1, h => by
    obtain rfl : op = 71 := by omega
    rw [show Byt.wrdFrom t 0 71 = (0, 0) from rfl, if_pos rfl]
  | f + 1, op, h1, h => by
    have ih := wrdR_step t f (op + 1) (by omega) (by omega)
    rw [show f + 1 + 2 = (f + 2) + 1 by omega]
    simp only [Byt.wrdR, Byt.wrdFrom] at ih ⊢
    by_cases c1 : t = Byt.nmL op
    · rw [if_pos c1, if_pos c1, if_neg (show ¬ op = 72 by omega), if_neg (by simp)]
    · rw [if_neg c1, if_neg c1]
      by_cases c2 : t = 99 :: 46 :: Byt.nmL op
      · rw [if_pos ⟨c2, by omega⟩, if_pos c2, if_neg (by simp)]
      · rw [if_neg (fun h => c2 h.1), if_neg c2, ih]
theorem wrd71 : Byt.wrdFrom (Byt.nmL 71) 70 1 = (0, 0) := by decide +kernel
theorem wrd72 : Byt.wrdFrom (Byt.nmL 72) 70 1 = (0, 0) := by decide +kernel
theorem nm7172 : Byt.nmL 71 ≠ Byt.nmL 72 := by decide +kernel
theorem wrdR_eq (t : List UInt8) : Byt.wrdR t 72 1 = Byt.wrd t := by
  rw [wrdR_step t 70 1 (by omega) (by omega)]
  unfold Byt.wrd
  have e : Byt.wrdR t 2 71 = if t = Byt.nmL 71 then (71, 4) else if t = Byt.nmL 72 then (72, 2) else (0, 0) := by
    simp [Byt.wrdR]
  rw [e]
  by_cases c1 : t = Byt.nmL 71
  · rw [if_pos c1, if_pos c1, c1, wrd71, if_pos rfl]
  · rw [if_neg c1, if_neg c1]
    by_cases c2 : t = Byt.nmL 72
    · rw [if_pos c2, if_pos c2, c2, wrd72, if_pos rfl]
    · rw [if_neg c2, if_neg c2]
      by_cases c3 : Byt.wrdFrom t 70 1 = (0, 0)
      · rw [if_pos c3, c3]
      · rw [if_neg c3]
set_option maxHeartbeats 1000000 in
theorem u_operation (s : ByteArray) (w : World) :
    Calls Tryz.prog 172 #[.string s] w fun e w' => e = .returned (.tuple #[.int .i64 (Byt.wrd s.data.toList).1, .int .i64 (Byt.wrd s.data.toList).2]) ∧ w' = w := by
  rw [← wrdR_eq]
  obtain ⟨T, hT⟩ : ∃ T, T = Byt.wrdR s.data.toList 72 1 := ⟨_, rfl⟩
  rw [← hT]
  have HT := hide1 hT
  clear hT
  go_enter Tryz.func172, Tryz.ntmps172
  go_wp2
  go_loop [4, 5] (fun m d => ∃ i : Nat, 1 ≤ i ∧ i ≤ 73 ∧ d = .int .i64 i ∧ (i ≤ 72 → m = .int .i64 4) ∧ (∃ mm, m = .int .i64 mm) ∧ Hid (T = Byt.wrdR s.data.toList (73 - i) i)) (fun _ d => 73 - (intOf d).toNat)
  case atStart => exact ⟨1, by omega, by omega, rfl, fun _ => rfl, ⟨_, rfl⟩, HT⟩
  case round =>
    obtain ⟨i, hi1, hi0, rfl, hm, ⟨mm, rfl⟩, hh⟩ := hrel
    by_cases hi : i < 73
    · have hm' := hm (by omega)
      obtain rfl : mm = 4 := by cases hm'; rfl
      clear hm hm'
      obtain ⟨X, hX⟩ : ∃ X : ByteArray, X = Nm.name i := ⟨_, rfl⟩
      obtain ⟨Y, hY⟩ : ∃ X : ByteArray, X = ⟨(99 :: 46 :: Byt.nmL i).toArray⟩ := ⟨_, rfl⟩
      have hY' : Byt.strV (99 :: 46 :: Byt.nmL i) = .string Y := by rw [hY]; rfl
      have he1 : (s.toList == X.toList) = decide (s.data.toList = Byt.nmL i) := by rw [hX]; exact eq_nm s _
      have he2 := eq_str s Y _ hY
      have hadd := short_add i (by omega)
      rw [hY', ← hX] at hadd
      have hv : T = if s.data.toList = Byt.nmL i then (i, if i = 72 then 2 else 4) else if s.data.toList = 99 :: 46 :: Byt.nmL i ∧ i ≤ 70 then (i, 2) else Byt.wrdR s.data.toList (73 - (i + 1)) (i + 1) := by
        rw [hh.out, show 73 - i = (73 - (i + 1)) + 1 by omega]; rfl
      have HX := hide1 hX
      clear hX hY hY'
      have h72 : ((i : Int) == 72) = decide (i = 72) := by rw [Bool.eq_iff_iff]; simp; omega
      by_cases c0 : i = 72
      · rw [decide_eq_true c0] at h72
        by_cases c1 : s.data.toList = Byt.nmL i
        · rw [if_pos c1, if_pos c0] at hv
          rw [decide_eq_true c1] at he1
          have HV := hide1 hv
          clear hv hh HT he2 c1 c0
          go_wp2_with (go_at_call 117; refine (u_Name i _).mono ?_; rintro e w' ⟨rfl, rfl⟩; rw [← HX.out])
          go_ret2
          exact ⟨by rw [HV.out]; rfl, rfl⟩
        · rw [if_neg c1, if_neg (by omega)] at hv
          rw [decide_eq_false c1] at he1
          have HV := hide1 hv
          have h70 : decide ((i : Int) ≤ 70) = false := by simp; omega
          cases hc2 : (s.toList == Y.toList)
          · clear hv hh HT c1 c0 he2
            go_wp2_with (go_at_call 117; refine (u_Name i _).mono ?_; rintro e w' ⟨rfl, rfl⟩; rw [← HX.out])
            go_round
            case rel => exact ⟨i + 1, by omega, by omega, by go_num, fun h => by simp at h72; omega, ⟨_, rfl⟩, HV⟩
            case measure => simp [intOf]; omega
          · clear hv hh HT c1 c0 he2
            go_wp2_with (go_at_call 117; refine (u_Name i _).mono ?_; rintro e w' ⟨rfl, rfl⟩; rw [← HX.out])
            go_round
            case rel => exact ⟨i + 1, by omega, by omega, by go_num, fun h => by simp at h72; omega, ⟨_, rfl⟩, HV⟩
            case measure => simp [intOf]; omega
      · rw [decide_eq_false c0] at h72
        by_cases c1 : s.data.toList = Byt.nmL i
        · rw [if_pos c1, if_neg c0] at hv
          rw [decide_eq_true c1] at he1
          have HV := hide1 hv
          clear hv hh HT he2 c1 c0
          go_wp2_with (go_at_call 117; refine (u_Name i _).mono ?_; rintro e w' ⟨rfl, rfl⟩; rw [← HX.out])
          go_ret2
          exact ⟨by rw [HV.out]; rfl, rfl⟩
        · rw [if_neg c1] at hv
          rw [decide_eq_false c1] at he1
          by_cases c2 : s.data.toList = 99 :: 46 :: Byt.nmL i
          · rw [decide_eq_true c2] at he2
            by_cases c3 : i ≤ 70
            · rw [if_pos ⟨c2, c3⟩] at hv
              have HV := hide1 hv
              have h70 : decide ((i : Int) ≤ 70) = true := by simp; omega
              clear hv hh HT c1 c0 c2
              go_wp2_with (go_at_call 117; refine (u_Name i _).mono ?_; rintro e w' ⟨rfl, rfl⟩; rw [← HX.out])
              go_ret2
              exact ⟨by rw [HV.out]; rfl, rfl⟩
            · rw [if_neg (fun h => c3 h.2)] at hv
              have HV := hide1 hv
              have h70 : decide ((i : Int) ≤ 70) = false := by simp; omega
              clear hv hh HT c1 c0 c2
              go_wp2_with (go_at_call 117; refine (u_Name i _).mono ?_; rintro e w' ⟨rfl, rfl⟩; rw [← HX.out])
              go_round
              case rel => exact ⟨i + 1, by omega, by omega, by go_num, fun h => rfl, ⟨_, rfl⟩, HV⟩
              case measure => simp [intOf]; omega
          · rw [if_neg (fun h => c2 h.1)] at hv
            rw [decide_eq_false c2] at he2
            have HV := hide1 hv
            clear hv hh HT c1 c0 c2
            go_wp2_with (go_at_call 117; refine (u_Name i _).mono ?_; rintro e w' ⟨rfl, rfl⟩; rw [← HX.out])
            go_round
            case rel => exact ⟨i + 1, by omega, by omega, by go_num, fun h => rfl, ⟨_, rfl⟩, HV⟩
            case measure => simp [intOf]; omega
    · obtain rfl : i = 73 := by omega
      have hT : Hid (T = (0, 0)) := hh
      clear hh HT
      go_wp2
      go_ret2
      exact ⟨by rw [hT.out]; rfl, rfl⟩
end Go.Proofs.YthfofjkfbhahoaaGreatDoor
end
section
namespace Go.Proofs.YthfofjkfbhahoaaGreatDoor
open Go.RowKit
set_option linter.unusedSimpArgs false
/-- what a line says -/
structure Ln where
  nm : List UInt8
  i : Ins
  tg : List UInt8
def lnA (N : ByteArray) (i : Ins) (G : ByteArray) : Value := .agg #[.string N, .int .i64 i.op, .int .i64 i.rd, .int .i64 i.rs1, .int .i64 i.rs2, .int .i64 i.im, .int .i64 i.ln, .string G]
def lnV (l : Ln) : Value := lnA ⟨l.nm.toArray⟩ l.i ⟨l.tg.toArray⟩
def ln0 : Ln := ⟨[], ins0, []⟩
def insO (N G : ByteArray) : Option Ins → Value
  | some i => .tuple #[lnA N i G, .bool true]
  | none => .tuple #[lnA ⟨#[]⟩ ins0 ⟨#[]⟩, .bool false]
namespace Byt
/-- a register operand -/
def opdR (i : Ins) (c : Nat) (t : List UInt8) : Option Ins :=
  match reg t with
  | none => none
  | some r => some (if c = 100 then { i with rd := r } else if c = 115 then { i with rs1 := r } else { i with rs2 := r })
/-- a number operand -/
def opdN (i : Ins) (c : Nat) (t : List UInt8) : Option Ins :=
  if (number t).2 = true then some (if c = 117 then { i with rs1 := (number t).1 } else { i with im := (number t).1 }) else none
/-- a place operand -/
def opdM (i : Ins) (t0 t1 t2 t3 : List UInt8) : Option Ins :=
  if t1 = [40] ∧ t3 = [41] ∧ (number t0).2 = true then
    match reg t2 with
    | none => none
    | some r => some { i with im := (number t0).1, rs1 := r }
  else none
end Byt
set_option maxHeartbeats 1000000 in
theorem a_readRegisterOperand (N G : ByteArray) (i : Ins) (c : Nat) (hc : c = 100 ∨ c = 115 ∨ c = 116) (s : ByteArray) (w : World) :
    Calls Tryz.prog 261 #[lnA N i G, .int .u8 c, .string s] w fun e w' => e = .returned (insO N G (Byt.opdR i c s.data.toList)) ∧ Below w.heap.size w w' := by
  unfold Byt.opdR
  obtain ⟨T, hT⟩ : ∃ T, T = Byt.reg s.data.toList := ⟨_, rfl⟩
  rw [← hT]
  have HT := hide1 hT
  clear hT
  unfold lnA
  cases T with
  | none =>
    go_enter Tryz.func261, Tryz.ntmps261
    go_wp2_with fail
    refine (a_readRegister s _).mono ?_
    rintro e w' ⟨rfl, rfl⟩
    rw [← HT.out]
    go_wp2
    refine bodyPost_ret (v := insO N G none) (by simp [results, Tryz.results261, go_sem, insO, lnA, ins0]) rfl ⟨rfl, ?_⟩
    repeat (first | exact Below.refl _ _ | (with_reducible refine Below.setCell ?_ (by simp) _) | (with_reducible refine Below.alloc ?_ (by simp) _))
  | some r =>
    rcases hc with rfl | rfl | rfl
    · go_enter Tryz.func261, Tryz.ntmps261
      go_wp2_with fail
      refine (a_readRegister s _).mono ?_
      rintro e w' ⟨rfl, rfl⟩
      rw [← HT.out]
      go_wp2
      refine bodyPost_ret (v := insO N G (some { i with rd := r })) (by simp [results, Tryz.results261, go_sem, insO, lnA, ins0]) rfl ⟨rfl, ?_⟩
      repeat (first | exact Below.refl _ _ | (with_reducible refine Below.setCell ?_ (by simp) _) | (with_reducible refine Below.alloc ?_ (by simp) _))
    · go_enter Tryz.func261, Tryz.ntmps261
      go_wp2_with fail
      refine (a_readRegister s _).mono ?_
      rintro e w' ⟨rfl, rfl⟩
      rw [← HT.out]
      go_wp2
      refine bodyPost_ret (v := insO N G (some { i with rs1 := r })) (by simp [results, Tryz.results261, go_sem, insO, lnA, ins0]) rfl ⟨rfl, ?_⟩
      repeat (first | exact Below.refl _ _ | (with_reducible refine Below.setCell ?_ (by simp) _) | (with_reducible refine Below.alloc ?_ (by simp) _))
    · go_enter Tryz.func261, Tryz.ntmps261
      go_wp2_with fail
      refine (a_readRegister s _).mono ?_
      rintro e w' ⟨rfl, rfl⟩
      rw [← HT.out]
      go_wp2
      refine bodyPost_ret (v := insO N G (some { i with rs2 := r })) (by simp [results, Tryz.results261, go_sem, insO, lnA, ins0]) rfl ⟨rfl, ?_⟩
      repeat (first | exact Below.refl _ _ | (with_reducible refine Below.setCell ?_ (by simp) _) | (with_reducible refine Below.alloc ?_ (by simp) _))
end Go.Proofs.YthfofjkfbhahoaaGreatDoor
end
section
namespace Go.Proofs.YthfofjkfbhahoaaGreatDoor
open Go.RowKit
set_option linter.unusedSimpArgs false
theorem eq_lit (s : ByteArray) (l : List UInt8) : (s.toList == l) = decide (s.data.toList = l) := by
  rw [Lib.toList_data, Bool.eq_iff_iff]; simp
theorem StrsAt.more {w w' : World} {b o : Nat} {L : List (List UInt8)} (h : Hid (StrsAt w b o L)) (hn : b < w.heap.size) (hb : Below w.heap.size w w') : Hid (StrsAt w' b o L) := h.out.below hb hn
def Short (L : List (List UInt8)) : Prop := ∀ t ∈ L, t.length ≤ 5000
theorem Short.get {L : List (List UInt8)} (h : Hid (Short L)) (a : Nat) : (L[a]?.getD []).length ≤ 5000 := by
  cases e : L[a]? with
  | none => simp
  | some t => exact h.out t (List.mem_of_getElem? e)
set_option maxHeartbeats 2000000 in
theorem a_readPlaceOperand (N G : ByteArray) (i : Ins) (b o cap : Nat) (L : List (List UInt8)) (hL : L.length ≤ 5000) (a : Nat) (ha : a ≤ 9000) (w : World) (hw : Hid (StrsAt w b o L)) (hb : b < w.heap.size) (hs : Hid (Short L)) :
    Calls Tryz.prog 262 #[lnA N i G, .slice (some ⟨b, o, none⟩) L.length cap, .int .i64 a] w fun e w' => e = .returned (insO N G (Byt.opdM i (L[a]?.getD []) (L[a + 1]?.getD []) (L[a + 2]?.getD []) (L[a + 3]?.getD []))) ∧ Below w.heap.size w w' := by
  unfold lnA
  have c0 := fun w hw => a_tokenAt b o cap L hL a (by omega) w hw
  have c1 := fun w hw => a_tokenAt b o cap L hL (a + 1) (by omega) w hw
  have c2 := fun w hw => a_tokenAt b o cap L hL (a + 2) (by omega) w hw
  have c3 := fun w hw => a_tokenAt b o cap L hL (a + 3) (by omega) w hw
  have s0 := Short.get hs a
  obtain ⟨t0, h0⟩ : ∃ t, t = L[a]?.getD [] := ⟨_, rfl⟩
  obtain ⟨t1, h1⟩ : ∃ t, t = L[a + 1]?.getD [] := ⟨_, rfl⟩
  obtain ⟨t2, h2⟩ : ∃ t, t = L[a + 2]?.getD [] := ⟨_, rfl⟩
  obtain ⟨t3, h3⟩ : ∃ t, t = L[a + 3]?.getD [] := ⟨_, rfl⟩
  rw [← h0, ← h1, ← h2, ← h3]
  rw [← h0] at c0 s0
  rw [← h1] at c1
  rw [← h2] at c2
  rw [← h3] at c3
  clear h0 h1 h2 h3
  obtain ⟨X0, e0⟩ : ∃ X : ByteArray, X = ⟨t0.toArray⟩ := ⟨_, rfl⟩
  obtain ⟨X1, e1⟩ : ∃ X : ByteArray, X = ⟨t1.toArray⟩ := ⟨_, rfl⟩
  obtain ⟨X2, e2⟩ : ∃ X : ByteArray, X = ⟨t2.toArray⟩ := ⟨_, rfl⟩
  obtain ⟨X3, e3⟩ : ∃ X : ByteArray, X = ⟨t3.toArray⟩ := ⟨_, rfl⟩
  rw [show Byt.strV t0 = .string X0 by rw [e0]; rfl] at c0
  rw [show Byt.strV t1 = .string X1 by rw [e1]; rfl] at c1
  rw [show Byt.strV t2 = .string X2 by rw [e2]; rfl] at c2
  rw [show Byt.strV t3 = .string X3 by rw [e3]; rfl] at c3
  have f0 : X0.data.toList = t0 := by rw [e0]
  have f1 : X1.data.toList = t1 := by rw [e1]
  have f2 : X2.data.toList = t2 := by rw [e2]
  have f3 : X3.data.toList = t3 := by rw [e3]
  have s0' : X0.size ≤ 5000 := by rw [e0]; simpa [ByteArray.size] using s0
  clear e0 e1 e2 e3 s0
  subst f0 f1 f2 f3
  have C0 := hide1 c0
  have C1 := hide1 c1
  have C2 := hide1 c2
  have C3 := hide1 c3
  clear c0 c1 c2 c3
  have B2 : Below w.heap.size w ((w.alloc (.cells #[Value.string N, .int .i64 i.op, .int .i64 i.rd, .int .i64 i.rs1, .int .i64 i.rs2, .int .i64 i.im, .int .i64 i.ln, .string G] 155)).alloc (.cells #[Value.string ⟨#[]⟩, .int .i64 0, .int .i64 0, .int .i64 0, .int .i64 0, .int .i64 0, .int .i64 0, .string ⟨#[]⟩] 155)) := ((Below.refl _ _).alloc (by simp) _).alloc (by simp) _
  have hw2 := StrsAt.more hw hb B2
  have HB := hide1 B2
  clear B2
  have q1 : (X1.toList == [40]) = decide (X1.data.toList = [40]) := eq_lit X1 [40]
  have q3 : (X3.toList == [41]) = decide (X3.data.toList = [41]) := eq_lit X3 [41]
  unfold Byt.opdM
  by_cases k1 : X1.data.toList = [40]
  · rw [decide_eq_true k1] at q1
    by_cases k3 : X3.data.toList = [41]
    · rw [decide_eq_true k3] at q3
      obtain ⟨V, hV⟩ : ∃ V, V = Byt.number X0.data.toList := ⟨_, rfl⟩
      rw [← hV]
      have HV := hide1 hV
      clear hV
      obtain ⟨v, vb⟩ := V
      cases vb with
      | false =>
        rw [if_neg (fun h => by simp at h)]
        clear k1 k3
        go_enter Tryz.func262, Tryz.ntmps262
        go_wp2_with fail
        rw [show (a : Int) + 1 = ((a + 1 : Nat) : Int) by omega]
        refine (C1.out _ hw2).mono ?_
        rintro e w1 ⟨rfl, rfl⟩
        go_wp2_with fail
        rw [show (a : Int) + 3 = ((a + 3 : Nat) : Int) by omega]
        refine (C3.out _ hw2).mono ?_
        rintro e w1 ⟨rfl, rfl⟩
        go_wp2_with fail
        refine (C0.out _ hw2).mono ?_
        rintro e w1 ⟨rfl, rfl⟩
        go_wp2_with fail
        refine (a_readNumber X0 s0' _).mono ?_
        rintro e w1 ⟨rfl, rfl⟩
        rw [← HV.out]
        go_wp2
        refine bodyPost_ret (v := insO N G none) (by simp [results, Tryz.results262, go_sem, insO, lnA, ins0]) rfl ⟨rfl, ?_⟩
        repeat (first | exact Below.refl _ _ | (with_reducible refine Below.setCell ?_ (by simp) _) | (with_reducible refine Below.alloc ?_ (by simp) _))
      | true =>
        rw [if_pos ⟨k1, k3, rfl⟩]
        clear k1 k3
        obtain ⟨R, hR⟩ : ∃ R, R = Byt.reg X2.data.toList := ⟨_, rfl⟩
        rw [← hR]
        have HR := hide1 hR
        clear hR
        cases R with
        | none =>
          go_enter Tryz.func262, Tryz.ntmps262
          go_wp2_with fail
          rw [show (a : Int) + 1 = ((a + 1 : Nat) : Int) by omega]
          refine (C1.out _ hw2).mono ?_
          rintro e w1 ⟨rfl, rfl⟩
          go_wp2_with fail
          rw [show (a : Int) + 3 = ((a + 3 : Nat) : Int) by omega]
          refine (C3.out _ hw2).mono ?_
          rintro e w1 ⟨rfl, rfl⟩
          go_wp2_with fail
          refine (C0.out _ hw2).mono ?_
          rintro e w1 ⟨rfl, rfl⟩
          go_wp2_with fail
          refine (a_readNumber X0 s0' _).mono ?_
          rintro e w1 ⟨rfl, rfl⟩
          rw [← HV.out]
          go_wp2_with fail
          rw [show (a : Int) + 2 = ((a + 2 : Nat) : Int) by omega]
          refine (C2.out _ hw2).mono ?_
          rintro e w1 ⟨rfl, rfl⟩
          go_wp2_with fail
          refine (a_readRegister X2 _).mono ?_
          rintro e w1 ⟨rfl, rfl⟩
          rw [← HR.out]
          go_wp2
          refine bodyPost_ret (v := insO N G none) (by simp [results, Tryz.results262, go_sem, insO, lnA, ins0]) rfl ⟨rfl, ?_⟩
          repeat (first | exact Below.refl _ _ | (with_reducible refine Below.setCell ?_ (by simp) _) | (with_reducible refine Below.alloc ?_ (by simp) _))
        | some r =>
          go_enter Tryz.func262, Tryz.ntmps262
          go_wp2_with fail
          rw [show (a : Int) + 1 = ((a + 1 : Nat) : Int) by omega]
          refine (C1.out _ hw2).mono ?_
          rintro e w1 ⟨rfl, rfl⟩
          go_wp2_with fail
          rw [show (a : Int) + 3 = ((a + 3 : Nat) : Int) by omega]
          refine (C3.out _ hw2).mono ?_
          rintro e w1 ⟨rfl, rfl⟩
          go_wp2_with fail
          refine (C0.out _ hw2).mono ?_
          rintro e w1 ⟨rfl, rfl⟩
          go_wp2_with fail
          refine (a_readNumber X0 s0' _).mono ?_
          rintro e w1 ⟨rfl, rfl⟩
          rw [← HV.out]
          go_wp2_with fail
          rw [show (a : Int) + 2 = ((a + 2 : Nat) : Int) by omega]
          refine (C2.out _ hw2).mono ?_
          rintro e w1 ⟨rfl, rfl⟩
          go_wp2_with fail
          refine (a_readRegister X2 _).mono ?_
          rintro e w1 ⟨rfl, rfl⟩
          rw [← HR.out]
          go_wp2
          refine bodyPost_ret (v := insO N G (some { i with im := v, rs1 := r })) (by simp [results, Tryz.results262, go_sem, insO, lnA, ins0]) rfl ⟨rfl, ?_⟩
          repeat (first | exact Below.refl _ _ | (with_reducible refine Below.setCell ?_ (by simp) _) | (with_reducible refine Below.alloc ?_ (by simp) _))
    · rw [decide_eq_false k3] at q3
      rw [if_neg (fun h => k3 h.2.1)]
      clear k1 k3
      go_enter Tryz.func262, Tryz.ntmps262
      go_wp2_with fail
      rw [show (a : Int) + 1 = ((a + 1 : Nat) : Int) by omega]
      refine (C1.out _ hw2).mono ?_
      rintro e w1 ⟨rfl, rfl⟩
      go_wp2_with fail
      rw [show (a : Int) + 3 = ((a + 3 : Nat) : Int) by omega]
      refine (C3.out _ hw2).mono ?_
      rintro e w1 ⟨rfl, rfl⟩
      go_wp2
      refine bodyPost_ret (v := insO N G none) (by simp [results, Tryz.results262, go_sem, insO, lnA, ins0]) rfl ⟨rfl, ?_⟩
      repeat (first | exact Below.refl _ _ | (with_reducible refine Below.setCell ?_ (by simp) _) | (with_reducible refine Below.alloc ?_ (by simp) _))
  · rw [decide_eq_false k1] at q1
    rw [if_neg (fun h => k1 h.1)]
    clear k1 q3
    go_enter Tryz.func262, Tryz.ntmps262
    go_wp2_with fail
    rw [show (a : Int) + 1 = ((a + 1 : Nat) : Int) by omega]
    refine (C1.out _ hw2).mono ?_
    rintro e w1 ⟨rfl, rfl⟩
    go_wp2
    refine bodyPost_ret (v := insO N G none) (by simp [results, Tryz.results262, go_sem, insO, lnA, ins0]) rfl ⟨rfl, ?_⟩
    repeat (first | exact Below.refl _ _ | (with_reducible refine Below.setCell ?_ (by simp) _) | (with_reducible refine Below.alloc ?_ (by simp) _))
end Go.Proofs.YthfofjkfbhahoaaGreatDoor
end
