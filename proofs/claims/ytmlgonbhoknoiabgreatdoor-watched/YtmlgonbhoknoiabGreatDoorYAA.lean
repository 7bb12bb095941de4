import Derived.Test.YtmlgonbhoknoiabGreatDoorYQ
set_option maxHeartbeats 8000000
set_option linter.all false
namespace Go.Proofs.YtmlgonbhoknoiabGreatDoor
open Go.RowKit Go.Proofs.Tryz
namespace Byt
def dig (c : UInt8) : Bool := decide (48 <= c.toNat) && decide (c.toNat <= 57)
def letr (c : UInt8) : Bool := (decide (97 <= c.toNat) && decide (c.toNat <= 122)) || (decide (65 <= c.toNat) && decide (c.toNat <= 90)) || decide (c.toNat = 95) || decide (c.toNat = 46)
def nmc (c : UInt8) : Bool := letr c || dig c
def inn (c : UInt8) : Bool := nmc c || decide (c.toNat = 45)
def blank (c : UInt8) : Bool := decide (c.toNat = 32) || decide (c.toNat = 9)
def hexv (c : UInt8) : Nat := if 48 <= c.toNat /\ c.toNat <= 57 then c.toNat - 48 else if 97 <= c.toNat /\ c.toNat <= 102 then c.toNat - 87 else if 65 <= c.toNat /\ c.toNat <= 70 then c.toNat - 55 else 16
end Byt
theorem u8_bd (c : UInt8) : c.toNat <= 255 := by have := c.toNat_lt; omega
theorem a_isDigit (c : UInt8) (w : World) :
 CS 308 #[.int .u8 (c.toNat : Int)] (.bool (Byt.dig c)) w := by
 have hbd := u8_bd c
 by_cases k0 : c.toNat <= 47
 . have l0 : 0 <= c.toNat := by omega
   have vv : Byt.dig c = false := zq0
   rw [vv]
   skip
   exact zq184
 by_cases k1 : c.toNat <= 57
 . have l0 : 48 <= c.toNat := by omega
   have vv : Byt.dig c = true := zq0
   rw [vv]
   clear k0
   exact zq184
 have l0 : 58 <= c.toNat := by omega
 have vv : Byt.dig c = false := zq0
 rw [vv]
 clear k0 k1
 exact zq184
theorem a_isBlank (c : UInt8) (w : World) :
 CS 219 #[.int .u8 (c.toNat : Int)] (.bool (Byt.blank c)) w := by
 have hbd := u8_bd c
 by_cases k0 : c.toNat <= 8
 . have l0 : 0 <= c.toNat := by omega
   have vv : Byt.blank c = false := zq1
   rw [vv]
   skip
   exact zq185
 by_cases k1 : c.toNat <= 9
 . have l0 : 9 <= c.toNat := by omega
   have vv : Byt.blank c = true := zq1
   rw [vv]
   clear k0
   exact zq185
 by_cases k2 : c.toNat <= 31
 . have l0 : 10 <= c.toNat := by omega
   have vv : Byt.blank c = false := zq1
   rw [vv]
   clear k0 k1
   exact zq185
 by_cases k3 : c.toNat <= 32
 . have l0 : 32 <= c.toNat := by omega
   have vv : Byt.blank c = true := zq1
   rw [vv]
   clear k0 k1 k2
   exact zq185
 have l0 : 33 <= c.toNat := by omega
 have vv : Byt.blank c = false := zq1
 rw [vv]
 clear k0 k1 k2 k3
 exact zq185
theorem a_isNameByte (c : UInt8) (w : World) :
 CS 307 #[.int .u8 (c.toNat : Int)] (.bool (Byt.nmc c)) w := by
 have hbd := u8_bd c
 by_cases k0 : c.toNat <= 45
 . have l0 : 0 <= c.toNat := by omega
   have v_a_isDigit : Byt.dig c = false := zq0
   have vv : Byt.nmc c = false := zq2
   rw [vv]
   skip
   exact zq186
 by_cases k1 : c.toNat <= 46
 . have l0 : 46 <= c.toNat := by omega
   have v_a_isDigit : Byt.dig c = false := zq0
   have vv : Byt.nmc c = true := zq2
   rw [vv]
   clear k0
   exact zq186
 by_cases k2 : c.toNat <= 47
 . have l0 : 47 <= c.toNat := by omega
   have v_a_isDigit : Byt.dig c = false := zq0
   have vv : Byt.nmc c = false := zq2
   rw [vv]
   clear k0 k1
   exact zq186
 by_cases k3 : c.toNat <= 57
 . have l0 : 48 <= c.toNat := by omega
   have v_a_isDigit : Byt.dig c = true := zq0
   have vv : Byt.nmc c = true := zq2
   rw [vv]
   clear k0 k1 k2
   exact zq186
 by_cases k4 : c.toNat <= 64
 . have l0 : 58 <= c.toNat := by omega
   have v_a_isDigit : Byt.dig c = false := zq0
   have vv : Byt.nmc c = false := zq2
   rw [vv]
   clear k0 k1 k2 k3
   exact zq186
 by_cases k5 : c.toNat <= 90
 . have l0 : 65 <= c.toNat := by omega
   have v_a_isDigit : Byt.dig c = false := zq0
   have vv : Byt.nmc c = true := zq2
   rw [vv]
   clear k0 k1 k2 k3 k4
   exact zq186
 by_cases k6 : c.toNat <= 94
 . have l0 : 91 <= c.toNat := by omega
   have v_a_isDigit : Byt.dig c = false := zq0
   have vv : Byt.nmc c = false := zq2
   rw [vv]
   clear k0 k1 k2 k3 k4 k5
   exact zq186
 by_cases k7 : c.toNat <= 95
 . have l0 : 95 <= c.toNat := by omega
   have v_a_isDigit : Byt.dig c = false := zq0
   have vv : Byt.nmc c = true := zq2
   rw [vv]
   clear k0 k1 k2 k3 k4 k5 k6
   exact zq186
 by_cases k8 : c.toNat <= 96
 . have l0 : 96 <= c.toNat := by omega
   have v_a_isDigit : Byt.dig c = false := zq0
   have vv : Byt.nmc c = false := zq2
   rw [vv]
   clear k0 k1 k2 k3 k4 k5 k6 k7
   exact zq186
 by_cases k9 : c.toNat <= 122
 . have l0 : 97 <= c.toNat := by omega
   have v_a_isDigit : Byt.dig c = false := zq0
   have vv : Byt.nmc c = true := zq2
   rw [vv]
   clear k0 k1 k2 k3 k4 k5 k6 k7 k8
   exact zq186
 have l0 : 123 <= c.toNat := by omega
 have v_a_isDigit : Byt.dig c = false := zq0
 have vv : Byt.nmc c = false := zq2
 rw [vv]
 clear k0 k1 k2 k3 k4 k5 k6 k7 k8 k9
 exact zq186
theorem hide1 {p : Prop} (h : p) : Hid p := h
theorem a_digitValue (c : UInt8) (w : World) :
 CS 442 #[.int .u8 (c.toNat : Int)] (.int .i64 ((Byt.hexv c : Nat))) w := by
 have hbd := u8_bd c
 by_cases k0 : c.toNat <= 47
 . have l0 : 0 <= c.toNat := by omega
   have vv : Byt.hexv c = 16 := zq3
   have vd : Byt.dig c = false := zq0
   rw [vv]
   skip
   exact zq187
 by_cases k1 : c.toNat <= 57
 . have l0 : 48 <= c.toNat := by omega
   have vv : Byt.hexv c = c.toNat - 48 := by unfold Byt.hexv; rw [if_pos (by omega)]
   have vd : Byt.dig c = true := zq0
   rw [vv]
   clear k0
   exact zq187
 by_cases k2 : c.toNat <= 64
 . have l0 : 58 <= c.toNat := by omega
   have vv : Byt.hexv c = 16 := zq3
   have vd : Byt.dig c = false := zq0
   rw [vv]
   clear k0 k1
   exact zq187
 by_cases k3 : c.toNat <= 70
 . have l0 : 65 <= c.toNat := by omega
   have vv : Byt.hexv c = c.toNat - 55 := by unfold Byt.hexv; rw [if_neg (by omega), if_neg (by omega), if_pos (by omega)]
   have vd : Byt.dig c = false := zq0
   rw [vv]
   clear k0 k1 k2
   exact zq187
 by_cases k4 : c.toNat <= 96
 . have l0 : 71 <= c.toNat := by omega
   have vv : Byt.hexv c = 16 := zq3
   have vd : Byt.dig c = false := zq0
   rw [vv]
   clear k0 k1 k2 k3
   exact zq187
 by_cases k5 : c.toNat <= 102
 . have l0 : 97 <= c.toNat := by omega
   have vv : Byt.hexv c = c.toNat - 87 := by unfold Byt.hexv; rw [if_neg (by omega), if_pos (by omega)]
   have vd : Byt.dig c = false := zq0
   rw [vv]
   clear k0 k1 k2 k3 k4
   exact zq187
 have l0 : 103 <= c.toNat := by omega
 have vv : Byt.hexv c = 16 := zq3
 have vd : Byt.dig c = false := zq0
 rw [vv]
 clear k0 k1 k2 k3 k4 k5
 exact zq187
namespace Byt
def digs (base : Nat) : Nat -> List UInt8 -> Option Nat
 | acc, [] => some acc
 | acc, c :: l => if base <= hexv c then none else digs base (acc * base + hexv c) l
def rdig (base most : Nat) (l : List UInt8) : Option Nat := if l.length < 1 \/ most < l.length then none else digs base 0 l
end Byt
theorem dropb (s : ByteArray) (i : Nat) (h : i < s.size) : s.data.toList.drop i = s[i] :: s.data.toList.drop (i + 1) := by
 rw [List.drop_eq_getElem_cons (by simpa using h)]; rfl
theorem digs_hit {base acc : Nat} {s : ByteArray} {i : Nat} {T : Option Nat} (hi : i < s.size) (h : Byt.hexv s[i] < base) (hh : Hid (Byt.digs base acc (s.data.toList.drop i) = T)) : Hid (Byt.digs base (acc * base + Byt.hexv s[i]) (s.data.toList.drop (i + 1)) = T) := by
 have := hh.out
 rw [dropb s i hi] at this
 simp only [Byt.digs, if_neg (show ¬ base <= Byt.hexv s[i] by omega)] at this
 exact this
theorem digs_miss {base acc : Nat} {s : ByteArray} {i : Nat} {T : Option Nat} (hi : i < s.size) (h : base <= Byt.hexv s[i]) (hh : Hid (Byt.digs base acc (s.data.toList.drop i) = T)) : T = none := by
 have := hh.out
 rw [dropb s i hi] at this
 simp only [Byt.digs, if_pos h] at this
 exact this.symm
theorem a_readDigits_10 (s : ByteArray) (hs : s.size <= 5000) (w : World) :
 Calls prog 410 #[.string s, .int .i64 10, .int .i64 10] w fun e w' => (∃ o : Option Nat, Hid (Byt.rdig 10 10 s.data.toList = o) /\ o.getD 0 <= 10000000000 /\ e = .returned (.tuple #[.int .i64 (o.getD 0 : Nat), .bool o.isSome])) /\ w' = w := by
 have hlen : s.data.toList.length = s.size := by simp
 by_cases c1 : s.size < 1
 . exact zq188
 by_cases c2 : 10 < s.size
 . exact zq188
 have hr : Byt.rdig 10 10 s.data.toList = Byt.digs 10 0 (s.data.toList.drop 0) := by unfold Byt.rdig; rw [if_neg (by omega)]; rfl
 rw [hr]
 obtain ⟨T, hT⟩ := zn1 (Byt.digs 10 0 (s.data.toList.drop 0))
 rw [<- hT]
 have HT : Hid (Byt.digs 10 0 (s.data.toList.drop 0) = T) := hT.symm
 clear hT hr hlen
 go_enter func410, ntmps410
 go_wp2
 go_loop [8, 9] (fun a d => ∃ i acc : Nat, i <= s.size /\ a = .int .i64 acc /\ d = .int .i64 i /\ Hid (acc + 1 <= 10 ^ i) /\ Hid (Byt.digs 10 acc (s.data.toList.drop i) = T)) (fun _ d => s.size - (intOf d).toNat)
 case atStart => exact ⟨0, 0, by omega, rfl, rfl, (by decide : 0 + 1 <= 10 ^ 0), HT⟩
 case round =>
  obtain ⟨i, acc, hi0, rfl, rfl, hac, hh⟩ := hrel
  have ba : acc <= 10000000000 := by
   have h1 := hac.out
   have h2 : 10 ^ i <= 10 ^ 10 := zq4
   have h3 : ((10 : Nat) ^ 10) = 10000000000 := by decide
   omega
  by_cases hi : i < s.size
  . go_wp2_with fail
    refine (a_digitValue s[i] _).mono ?_
    rintro e w' ⟨rfl, rfl⟩
    obtain ⟨d, hd⟩ := zn1 (Byt.hexv s[i])
    rw [<- hd]
    have HD := hide1 hd
    clear hd
    by_cases hlt : 10 <= d
    . exact zq189
    . have hn := digs_hit hi (by rw [<- HD.out]; omega) hh
      rw [<- HD.out] at hn
      clear hh
      have hac' : Hid (acc * 10 + d + 1 <= 10 ^ (i + 1)) := by
       show _ <= _
       have h1 := hac.out
       have h2 : (acc + 1) * 10 <= 10 ^ i * 10 := Nat.mul_le_mul_right _ h1
       rw [Nat.pow_succ]; omega
      clear hac
      go_wp2
      go_round
      case rel => exact ⟨i + 1, acc * 10 + d, by omega, by go_num, by go_num, hac', hn⟩
      case measure => exact zq191
  . exact zq190
theorem a_readDigits_16 (s : ByteArray) (hs : s.size <= 5000) (w : World) :
 Calls prog 410 #[.string s, .int .i64 16, .int .i64 8] w fun e w' => (∃ o : Option Nat, Hid (Byt.rdig 16 8 s.data.toList = o) /\ o.getD 0 <= 4294967296 /\ e = .returned (.tuple #[.int .i64 (o.getD 0 : Nat), .bool o.isSome])) /\ w' = w := by
 have hlen : s.data.toList.length = s.size := by simp
 by_cases c1 : s.size < 1
 . exact zq188
 by_cases c2 : 8 < s.size
 . exact zq188
 have hr : Byt.rdig 16 8 s.data.toList = Byt.digs 16 0 (s.data.toList.drop 0) := by unfold Byt.rdig; rw [if_neg (by omega)]; rfl
 rw [hr]
 obtain ⟨T, hT⟩ := zn1 (Byt.digs 16 0 (s.data.toList.drop 0))
 rw [<- hT]
 have HT : Hid (Byt.digs 16 0 (s.data.toList.drop 0) = T) := hT.symm
 clear hT hr hlen
 go_enter func410, ntmps410
 go_wp2
 go_loop [8, 9] (fun a d => ∃ i acc : Nat, i <= s.size /\ a = .int .i64 acc /\ d = .int .i64 i /\ Hid (acc + 1 <= 16 ^ i) /\ Hid (Byt.digs 16 acc (s.data.toList.drop i) = T)) (fun _ d => s.size - (intOf d).toNat)
 case atStart => exact ⟨0, 0, by omega, rfl, rfl, (by decide : 0 + 1 <= 16 ^ 0), HT⟩
 case round =>
  obtain ⟨i, acc, hi0, rfl, rfl, hac, hh⟩ := hrel
  have ba : acc <= 4294967296 := by
   have h1 := hac.out
   have h2 : 16 ^ i <= 16 ^ 8 := zq4
   have h3 : ((16 : Nat) ^ 8) = 4294967296 := by decide
   omega
  by_cases hi : i < s.size
  . go_wp2_with fail
    refine (a_digitValue s[i] _).mono ?_
    rintro e w' ⟨rfl, rfl⟩
    obtain ⟨d, hd⟩ := zn1 (Byt.hexv s[i])
    rw [<- hd]
    have HD := hide1 hd
    clear hd
    by_cases hlt : 16 <= d
    . exact zq189
    . have hn := digs_hit hi (by rw [<- HD.out]; omega) hh
      rw [<- HD.out] at hn
      clear hh
      have hac' : Hid (acc * 16 + d + 1 <= 16 ^ (i + 1)) := by
       show _ <= _
       have h1 := hac.out
       have h2 : (acc + 1) * 16 <= 16 ^ i * 16 := Nat.mul_le_mul_right _ h1
       rw [Nat.pow_succ]; omega
      clear hac
      go_wp2
      go_round
      case rel => exact ⟨i + 1, acc * 16 + d, by omega, by go_num, by go_num, hac', hn⟩
      case measure => exact zq191
  . exact zq190
namespace Byt
def rowEnd (l : List UInt8) : Nat := match l with
 | [] => 0
 | c :: l => if inn c = true then rowEnd l + 1 else 0
def isName (l : List UInt8) : Bool := match l with
 | [] => false
 | c :: _ => !(dig c) && l.all nmc
def plain (l : List UInt8) : Option Nat :=
 if 2 < l.length /\ l[0]? = some 48 /\ l[1]? = some 120 then rdig 16 8 (l.drop 2) else rdig 10 10 l
end Byt
theorem rowEnd_le : ∀ l : List UInt8, Byt.rowEnd l <= l.length
 | [] => by simp [Byt.rowEnd]
 | c :: l => by
  have := rowEnd_le l
  simp only [Byt.rowEnd, List.length_cons]; split <;> omega
theorem inn_of (c : UInt8) : Byt.inn c = (Byt.nmc c || ((c.toNat : Int) == 45)) := by
 unfold Byt.inn
 congr 1
 rw [Bool.eq_iff_iff, decide_eq_true_eq, beq_iff_eq]; omega
theorem a_rowEnd (s : ByteArray) (hs : s.size <= 5000) (a : Nat) (ha : a <= s.size) (w : World) :
 CS 218 #[.string s, .int .i64 a] (.int .i64 (a + Byt.rowEnd (s.data.toList.drop a) : Nat)) w := by
 obtain ⟨T, hT⟩ := zn1 (a + Byt.rowEnd (s.data.toList.drop a))
 rw [<- hT]
 have HT := hide1 hT
 clear hT
 go_enter func218, ntmps218
 go_wp2
 go_loop [1] (fun d => ∃ i : Nat, i <= s.size /\ d = .int .i64 i /\ Hid (T = i + Byt.rowEnd (s.data.toList.drop i))) (fun d => s.size - (intOf d).toNat)
 case atStart => exact ⟨a, ha, rfl, HT⟩
 case round =>
  obtain ⟨i, hi0, rfl, hh⟩ := hrel
  by_cases hi : i < s.size
  . rw [dropb s i hi] at hh
    have hin := inn_of s[i]
    cases hn : Byt.nmc s[i]
    . cases h45 : ((s[i].toNat : Int) == 45)
      . have hT : Hid (T = i) := (by rw [hh.out]; simp only [Byt.rowEnd]; rw [hin, hn, h45, if_neg (by decide)]; rfl : T = i)
        clear hh hin
        go_wp2_with (go_at_call 307; refine (a_isNameByte _ _).mono ?_; rintro e w' ⟨rfl, rfl⟩)
        exact zq192
      . have hv : Hid (T = i + 1 + Byt.rowEnd (s.data.toList.drop (i + 1))) := (by rw [hh.out]; simp only [Byt.rowEnd]; rw [hin, hn, h45, if_pos (by rfl)]; omega : _ = _)
        exact zq193
    . have hv : Hid (T = i + 1 + Byt.rowEnd (s.data.toList.drop (i + 1))) := (by rw [hh.out]; simp only [Byt.rowEnd]; rw [hin, hn, if_pos (by rfl)]; omega : _ = _)
      exact zq193
  . obtain rfl : i = s.size := by omega
    have hd : s.data.toList.drop s.size = [] := zq5
    rw [hd] at hh
    have hT : Hid (T = s.size) := hh
    have hlt : decide ((s.size : Int) < (s.size : Int)) = false := by simp
    clear hh hd
    exact zq194
theorem empty_of {s : ByteArray} (h : s.size = 0) : s.toList.isEmpty = true := by
 rw [Lib.toList_data, List.isEmpty_iff]; exact List.eq_nil_of_length_eq_zero (by simpa using h)
theorem nonempty_of {s : ByteArray} (h : 0 < s.size) : s.toList.isEmpty = false := by
 rw [Lib.toList_data]
 cases hd : s.data.toList with
 | nil =>
  have : s.data.toList.length = s.size := by simp
  rw [hd] at this; simp at this; omega
 | cons a l => rfl
theorem a_isName (s : ByteArray) (hs : s.size <= 5000) (w : World) :
 CS 220 #[.string s] (.bool (Byt.isName s.data.toList)) w := by
 by_cases h0 : s.size = 0
 . have hl : s.data.toList = [] := List.eq_nil_of_length_eq_zero (by simpa using h0)
   have he := empty_of h0
   rw [show Byt.isName s.data.toList = false by rw [hl]; rfl]
   clear hl h0
   go_enter func220, ntmps220
   exact zq195
 . have hp : 0 < s.size := by omega
   have he := nonempty_of hp
   have hn : Byt.isName s.data.toList = (!(Byt.dig s[0]) && (s.data.toList.drop 0).all Byt.nmc) := by
    have h := dropb s 0 hp
    rw [List.drop_zero] at h
    conv => lhs; rw [h]
    simp only [Byt.isName]
    rw [<- h]; rfl
   rw [hn]
   clear hn h0
   cases hd : Byt.dig s[0]
   . rw [Bool.not_false, Bool.true_and]
     obtain ⟨T, hT⟩ := zn1 ((s.data.toList.drop 0).all Byt.nmc)
     rw [<- hT]
     have HT := hide1 hT
     clear hT
     go_enter func220, ntmps220
     go_wp2_with (go_at_call 308; refine (a_isDigit _ _).mono ?_; rintro e w' ⟨rfl, rfl⟩)
     go_loop [3] (fun d => ∃ i : Nat, i <= s.size /\ d = .int .i64 i /\ Hid (T = (s.data.toList.drop i).all Byt.nmc)) (fun d => s.size - (intOf d).toNat)
     case atStart => exact ⟨0, by omega, rfl, HT⟩
     case round =>
      obtain ⟨i, hi0, rfl, hh⟩ := hrel
      by_cases hi : i < s.size
      . rw [dropb s i hi, show (s[i] :: s.data.toList.drop (i + 1)).all Byt.nmc = (Byt.nmc s[i] && (s.data.toList.drop (i + 1)).all Byt.nmc) from rfl] at hh
        cases hn : Byt.nmc s[i]
        . rw [hn, Bool.false_and] at hh
          go_wp2_with (go_at_call 307; refine (a_isNameByte _ _).mono ?_; rintro e w' ⟨rfl, rfl⟩)
          go_ret
          exact ⟨by rw [hh.out]; rfl, rfl⟩
        . rw [hn, Bool.true_and] at hh
          go_wp2_with (go_at_call 307; refine (a_isNameByte _ _).mono ?_; rintro e w' ⟨rfl, rfl⟩)
          go_round
          case rel => exact ⟨i + 1, by omega, by go_num, hh⟩
          case measure => exact zq191
      . obtain rfl : i = s.size := by omega
        have hdr : s.data.toList.drop s.size = [] := zq5
        rw [hdr] at hh
        have hT : Hid (T = true) := hh
        clear hh hdr
        exact zq194
   . go_enter func220, ntmps220
     go_wp2_with (go_at_call 308; refine (a_isDigit _ _).mono ?_; rintro e w' ⟨rfl, rfl⟩)
     exact zq196
theorem get0 (s : ByteArray) (i : Nat) (h : i < s.size) : s.data.toList[i]? = some s[i] := by
 rw [List.getElem?_eq_getElem (by simpa using h)]; rfl
theorem u8e {c : UInt8} {n : Nat} (hn : n < 256) : (c.toNat : Int) = n ↔ c = UInt8.ofNat n := zq197
theorem plain_hex {s : ByteArray} (h : 2 < s.size) (h0 : ((s[0].toNat : Int) == 48) = true) (h1 : ((s[1].toNat : Int) == 120) = true) : Byt.plain s.data.toList = Byt.rdig 16 8 (s.extract 2 s.size).data.toList := by
 unfold Byt.plain
 replace h0 := (u8e (n := 48) (by decide)).1 (beq_iff_eq.1 h0)
 replace h1 := (u8e (n := 120) (by decide)).1 (beq_iff_eq.1 h1)
 rw [if_pos ⟨by simpa using h, by rw [get0 s 0 (by omega), h0]; rfl, by rw [get0 s 1 (by omega), h1]; rfl⟩, Lib.extract_to_end]
theorem plain_dec1 {s : ByteArray} (h : ¬ 2 < s.size) : Byt.plain s.data.toList = Byt.rdig 10 10 s.data.toList := by
 unfold Byt.plain; rw [if_neg (fun hh => h (by simpa using hh.1))]
theorem plain_dec2 {s : ByteArray} (h : 2 < s.size) (h0 : ((s[0].toNat : Int) == 48) = false) : Byt.plain s.data.toList = Byt.rdig 10 10 s.data.toList := by
 unfold Byt.plain
 replace h0 := fun e => (beq_eq_false_iff_ne.1 h0) ((u8e (n := 48) (by decide)).2 e)
 rw [if_neg (fun hh => h0 (by have := hh.2.1; rw [get0 s 0 (by omega)] at this; exact Option.some.inj this))]
theorem plain_dec3 {s : ByteArray} (h : 2 < s.size) (h1 : ((s[1].toNat : Int) == 120) = false) : Byt.plain s.data.toList = Byt.rdig 10 10 s.data.toList := by
 unfold Byt.plain
 replace h1 := fun e => (beq_eq_false_iff_ne.1 h1) ((u8e (n := 120) (by decide)).2 e)
 rw [if_neg (fun hh => h1 (by have := hh.2.2; rw [get0 s 1 (by omega)] at this; exact Option.some.inj this))]
theorem a_readPlain (s : ByteArray) (hs : s.size <= 5000) (w : World) :
 Calls prog 387 #[.string s] w fun e w' => (∃ o : Option Nat, Hid (Byt.plain s.data.toList = o) /\ o.getD 0 <= 10000000000 /\ e = .returned (.tuple #[.int .i64 (o.getD 0 : Nat), .bool o.isSome])) /\ w' = w := by
 by_cases c1 : 2 < s.size
 . cases h0 : ((s[0].toNat : Int) == 48)
   . have HP := hide1 (plain_dec2 c1 h0)
     exact zq198
   . cases h1 : ((s[1].toNat : Int) == 120)
     . have HP := hide1 (plain_dec3 c1 h1)
       exact zq198
     . have HP := hide1 (plain_hex c1 h0 h1)
       go_enter func387, ntmps387
       go_wp2_with fail
       refine (a_readDigits_16 (s.extract 2 s.size) (by simp; omega) _).mono ?_
       exact zq199
 . have HP := hide1 (plain_dec1 c1)
   exact zq198
namespace Byt
def number (l : List UInt8) : Int × Bool :=
 if l[0]? = some 45 then (-(((plain (l.drop 1)).getD 0 : Nat) : Int), (plain (l.drop 1)).isSome) else ((((plain l).getD 0 : Nat) : Int), (plain l).isSome)
end Byt
theorem number_neg {s : ByteArray} (h : 0 < s.size) (h0 : ((s[0].toNat : Int) == 45) = true) : Byt.number s.data.toList = (-(((Byt.plain (s.extract 1 s.size).data.toList).getD 0 : Nat) : Int), (Byt.plain (s.extract 1 s.size).data.toList).isSome) := by
 replace h0 := (u8e (n := 45) (by decide)).1 (beq_iff_eq.1 h0)
 unfold Byt.number
 rw [if_pos (by rw [get0 s 0 h, h0]; rfl), Lib.extract_to_end]
theorem number_pos {s : ByteArray} (h : ¬ (0 < s.size) \/ ∃ h : 0 < s.size, ((s[0].toNat : Int) == 45) = false) : Byt.number s.data.toList = ((((Byt.plain s.data.toList).getD 0 : Nat) : Int), (Byt.plain s.data.toList).isSome) := by
 unfold Byt.number
 rw [if_neg]
 intro hh
 rcases h with h | ⟨h, h0⟩
 . rw [List.getElem?_eq_none (by simp at h; simp [h])] at hh; cases hh
 . replace h0 := fun e => (beq_eq_false_iff_ne.1 h0) ((u8e (n := 45) (by decide)).2 e)
   rw [get0 s 0 h] at hh
   exact h0 (Option.some.inj hh)
theorem a_readNumber (s : ByteArray) (hs : s.size <= 5000) (w : World) :
 CS 357 #[.string s] (.tuple #[.int .i64 (Byt.number s.data.toList).1, .bool (Byt.number s.data.toList).2]) w := by
 by_cases c1 : 0 < s.size
 . cases h0 : ((s[0].toNat : Int) == 45)
   . have HP := hide1 (number_pos (.inr ⟨c1, h0⟩))
     exact zq200
   . have HP := hide1 (number_neg c1 h0)
     go_enter func357, ntmps357
     go_wp2_with fail
     refine (a_readPlain (s.extract 1 s.size) (by simp; omega) _).mono ?_
     exact zq201
 . have HP := hide1 (number_pos (.inl c1))
   have c2 : decide ((0 : Int) < (s.size : Int)) = false := by rw [decide_eq_false_iff_not]; omega
   exact zq200
namespace Byt
def tok : Nat -> List UInt8 -> List (List UInt8)
 | 0, _ => []
 | _ + 1, [] => []
 | f + 1, c :: l => if c.toNat = 35 then [] else if 0 < rowEnd (c :: l) then (c :: l).take (rowEnd (c :: l)) :: tok f ((c :: l).drop (rowEnd (c :: l))) else if blank c = true then tok f l else [c] :: tok f l
def strV (t : List UInt8) : Value := .string ⟨t.toArray⟩
end Byt
theorem tok_more : ∀ (f g : Nat) (l : List UInt8), l.length <= f -> l.length <= g -> Byt.tok f l = Byt.tok g l
 | 0, 0, _, _, _ => rfl
 | 0, g + 1, [], _, _ => rfl
 | f + 1, 0, [], _, _ => rfl
 | 0, _ + 1, c :: l, h, _ => by simp at h
 | _ + 1, 0, c :: l, _, h => by simp at h
 | f + 1, g + 1, [], _, _ => rfl
 | f + 1, g + 1, c :: l, h1, h2 => by
  simp only [List.length_cons] at h1 h2
  simp only [Byt.tok]
  by_cases c1 : c.toNat = 35
  . rw [if_pos c1, if_pos c1]
  . rw [if_neg c1, if_neg c1]
    by_cases c2 : 0 < Byt.rowEnd (c :: l)
    . rw [if_pos c2, if_pos c2, tok_more f g _ (by simp; omega) (by simp; omega)]
    . rw [if_neg c2, if_neg c2, tok_more f g l (by omega) (by omega)]
theorem ext_str (s : ByteArray) (a b : Nat) : Value.string (s.extract a b) = Byt.strV ((s.data.toList.drop a).take (b - a)) := by
 unfold Byt.strV
 congr 1
 have h := Lib.extract_data s a b
 cases hd : s.extract a b with
 | mk d =>
  rw [hd] at h
  simp only at h
  rw [<- h]
theorem Tryz.info9 : (prog.info? 9).map (fun i => (i.zero, i.size, i.bytes)) = some (some (.string ⟨#[]⟩), 1, 16) := by kernel_rfl
theorem slice_mid (s : ByteArray) (a b : Nat) (h1 : a <= b) (h2 : b <= s.size) (w : World) : (Instr.slice 9 (.string s) (some (.int .i64 (a : Int))) (some (.int .i64 (b : Int))) none).run prog w = .ok (.string (s.extract a b)) w := by
 rw [run_slice_string w 9 s .i64 .i64 a b Tryz.underlying9 (by omega) (by omega) (by omega)]
 simp
theorem a_tokens (s : ByteArray) (hs : s.size <= 5000) (w : World) :
 Calls prog 151 #[.string s] w fun e w' => ∃ v, e = .returned v /\ v ≠ .slice none 0 0 /\ w'.ownsRow w.heap.size 9 1 v (Byt.tok s.size s.data.toList).length ((Byt.tok s.size s.data.toList).map Byt.strV) /\ Below w.heap.size w w' := by
 have hmk : ∀ w, (Instr.makeSlice 162 (.int .i64 0) (.int .i64 0)).run prog w = .ok (.slice (some ⟨w.heap.size, 0, none⟩) 0 0) (w.alloc (.cells #[] 9)) := fun _ => by kernel_rfl
 obtain ⟨i0, hi, hz0, hz1, hz2⟩ := info_parts Tryz.info9
 obtain ⟨T, hT⟩ := zn1 (Byt.tok s.size s.data.toList)
 rw [<- hT]
 have HT := hide1 hT
 clear hT
 go_enter func151, ntmps151
 go_wp2
 go_loopw [3, 4] (fun v d wr => ∃ (a : Nat) (p : List (List UInt8)), a <= s.size /\ p.length <= a /\ d = .int .i64 a /\ v ≠ .slice none 0 0 /\ wr.ownsRow w.heap.size 9 1 v p.length (p.map Byt.strV) /\ Below w.heap.size w wr /\ Hid (T = p ++ Byt.tok (s.size - a) (s.data.toList.drop a))) (fun _ d _ => s.size - (intOf d).toNat)
 case atStart => exact ⟨0, [], by omega, by simp, rfl, by simp, World.ownsRow_made w _ 0 (Nat.le_refl _) zq489 rfl, (Below.refl _ _).alloc (Nat.le_refl _) _, HT⟩
 case round =>
  obtain ⟨a, p, ha, hpl, rfl, hnn, hown, hb, hh⟩ := hrel
  by_cases hlt : a < s.size
  . have hdr := dropb s a hlt
    have hf : s.size - a = (s.size - a - 1) + 1 := by omega
    have hbs := hb.size
    have hrow : ∀ j, u3.ownBlock = some j -> w.heap.size <= j := fun j hj => (hown.lt j hj).1
    by_cases c35 : s[a].toNat = 35
    . have c35' : ((s[a].toNat : Int) != 35) = false := by simp; omega
      have hT : Hid (T = p) := (by rw [hh.out, hdr, hf]; simp only [Byt.tok]; rw [if_pos c35]; simp : T = p)
      clear hh hdr hf c35
      go_wp2
      go_ret
      exact ⟨_, rfl, hnn, by rw [hT.out]; exact hown, hb⟩
    . have c35' : ((s[a].toNat : Int) != 35) = true := by simp; omega
      have hre : Byt.rowEnd (s.data.toList.drop a) <= s.size - a := by have := rowEnd_le (s.data.toList.drop a); simp at this; exact this
      obtain ⟨r, hr⟩ := zn1 (Byt.rowEnd (s.data.toList.drop a))
      rw [<- hr] at hre
      have HR := hide1 hr
      have hstep : T = p ++ (if 0 < r then (s.data.toList.drop a).take r :: Byt.tok (s.size - a - 1) ((s.data.toList.drop a).drop r) else if Byt.blank s[a] = true then Byt.tok (s.size - a - 1) (s.data.toList.drop (a + 1)) else [s[a]] :: Byt.tok (s.size - a - 1) (s.data.toList.drop (a + 1))) := by
       rw [hh.out, hr, hf, hdr]; simp only [Byt.tok]; rw [if_neg c35]; simp only [Nat.add_sub_cancel]
      clear hr hh hdr hf c35
      have HS := hide1 hstep
      clear hstep
      go_wp2_with fail
      refine (a_rowEnd s hs a (by omega) _).mono ?_
      rintro e w' ⟨rfl, rfl⟩
      rw [<- HR.out]
      clear HR
      obtain ⟨E, hE⟩ := zn1 (a + r)
      rw [<- hE]
      have HE := hide1 hE
      have hE1 : E <= s.size := by omega
      by_cases hr0 : 0 < r
      . have hE2 : a < E := by omega
        clear hE
        have hv : Hid (T = (p ++ [(s.data.toList.drop a).take r]) ++ Byt.tok (s.size - E) (s.data.toList.drop E)) := by
         show T = _
         rw [HE.out, HS.out, if_pos hr0, List.drop_drop, tok_more (s.size - a - 1) (s.size - (a + r)) _ (by simp; omega) (by simp)]
         simp
        clear HS hre hr0
        obtain ⟨X, hX⟩ := zn1 (s.extract a E)
        have hsl : ∀ w, (Instr.slice 9 (.string s) (some (.int .i64 (a : Int))) (some (.int .i64 (E : Int))) none).run prog w = .ok (.string X) w := by
         intro w; rw [hX]; exact slice_mid s a E (by omega) hE1 w
        have HX := hide1 hX
        clear hX
        go_wp2_with (at_builtin; refine wpList_append_own _ rfl (.tmp 34) (.tmp 39) 162 rfl w.heap.size 9 i0 (.string ⟨#[]⟩) 1 16 Tryz.underlying162 hi hz0 hz1 hz2 rfl (by decide) _ _ _ rfl (hown.alloc _) ⟨w'.heap.size, 0, none⟩ 1 1 [.string X] rfl rfl ?c1 ?c2 ?c3 ?c4 ?c5 ?_)
        case c1 =>
         exact zq202
        case c2 => exact zq203
        case c3 => unfold maxLen; omega
        case c4 => omega
        case c5 => simp; omega
        intro v' w1 hown' hgrow hnil
        have hnn' : v' ≠ .slice none 0 0 := fun h => hnil h
        clear hnil
        have hrow2 : Below w.heap.size w w1 := (hb.alloc hbs _).grown hgrow (by simp; omega) hrow
        clear hown hgrow
        rw [HX.out, ext_str, show E - a = r by have := HE.out; omega] at hown'
        go_wp2
        go_roundw
        case rel => exact ⟨E, p ++ [(s.data.toList.drop a).take r], by omega, by simp; omega, by go_num, hnn', by simpa using hown', hrow2, hv⟩
        case measure => exact zq191
      . obtain rfl : r = 0 := by omega
        have hEa : E = a := by omega
        rw [hEa]
        clear hE HE hE1 hEa
        rw [if_neg (by omega)] at HS
        cases hbl : Byt.blank s[a]
        . rw [hbl, if_neg (by decide)] at HS
          have hv : Hid (T = (p ++ [[s[a]]]) ++ Byt.tok (s.size - (a + 1)) (s.data.toList.drop (a + 1))) := by
           show T = _
           rw [HS.out, show s.size - (a + 1) = s.size - a - 1 by omega]; simp
          clear HS
          have h1 : (s.data.toList.drop a).take 1 = [s[a]] := by rw [dropb s a hlt]; rfl
          have H1 := hide1 h1
          clear h1
          obtain ⟨X, hX⟩ := zn1 (s.extract a (a + 1))
          have hsl : ∀ w, (Instr.slice 9 (.string s) (some (.int .i64 (a : Int))) (some (.int .i64 ((a : Int) + 1))) none).run prog w = .ok (.string X) w := by
           intro w; rw [hX]; exact slice_mid s a (a + 1) (by omega) (by omega) w
          have HX := hide1 hX
          clear hX
          go_wp2_with (first | (go_at_call 219; refine (a_isBlank _ _).mono ?_; rintro e w2 ⟨rfl, rfl⟩) | (at_builtin; refine wpList_append_own _ rfl (.tmp 20) (.tmp 26) 162 rfl w.heap.size 9 i0 (.string ⟨#[]⟩) 1 16 Tryz.underlying162 hi hz0 hz1 hz2 rfl (by decide) _ _ _ rfl (hown.alloc _) ⟨_, 0, none⟩ 1 1 [.string X] rfl rfl ?c1 ?c2 ?c3 ?c4 ?c5 ?_))
          case c1 =>
           exact zq202
          case c2 => exact zq203
          case c3 => unfold maxLen; omega
          case c4 => omega
          case c5 => simp; omega
          intro v' w1 hown' hgrow hnil
          have hnn' : v' ≠ .slice none 0 0 := fun h => hnil h
          clear hnil
          have hrow2 : Below w.heap.size w w1 := (hb.alloc hbs _).grown hgrow (by simp; omega) hrow
          clear hown hgrow
          rw [HX.out, ext_str, show a + 1 - a = 1 by omega, H1.out] at hown'
          go_wp2
          go_roundw
          case rel => exact ⟨a + 1, p ++ [[s[a]]], by omega, by simp; omega, by go_num, hnn', by simpa using hown', hrow2, hv⟩
          case measure => exact zq191
        . rw [hbl, if_pos rfl] at HS
          have hv : Hid (T = p ++ Byt.tok (s.size - (a + 1)) (s.data.toList.drop (a + 1))) := by
           show T = _
           rw [HS.out, show s.size - (a + 1) = s.size - a - 1 by omega]
          clear HS
          go_wp2_with (go_at_call 219; refine (a_isBlank _ _).mono ?_; rintro e w2 ⟨rfl, rfl⟩)
          go_roundw
          case rel => exact ⟨a + 1, p, by omega, by omega, by go_num, hnn, hown, hb, hv⟩
          case measure => exact zq191
  . have hlt' : decide ((a : Int) < (s.size : Int)) = false := by simp; omega
    have hT : Hid (T = p) := (by rw [hh.out, show s.size - a = 0 by omega]; simp [Byt.tok] : T = p)
    clear hh
    go_wp2
    go_ret
    exact ⟨_, rfl, hnn, by rw [hT.out]; exact hown, hb⟩
namespace Nm
def nameLast (op : Int) : ByteArray :=
 bif op == 55 then ⟨#[97, 109, 111, 97, 110, 100, 46, 119]⟩ else
 bif op == 56 then ⟨#[97, 109, 111, 111, 114, 46, 119]⟩ else
 bif op == 57 then ⟨#[97, 109, 111, 109, 105, 110, 46, 119]⟩ else
 bif op == 58 then ⟨#[97, 109, 111, 109, 97, 120, 46, 119]⟩ else
 bif op == 59 then ⟨#[97, 109, 111, 109, 105, 110, 117, 46, 119]⟩ else
 bif op == 60 then ⟨#[97, 109, 111, 109, 97, 120, 117, 46, 119]⟩ else
 bif op == 61 then ⟨#[99, 115, 114, 114, 119]⟩ else
 bif op == 62 then ⟨#[99, 115, 114, 114, 115]⟩ else
 bif op == 63 then ⟨#[99, 115, 114, 114, 99]⟩ else
 bif op == 64 then ⟨#[99, 115, 114, 114, 119, 105]⟩ else
 bif op == 65 then ⟨#[99, 115, 114, 114, 115, 105]⟩ else
 bif op == 66 then ⟨#[99, 115, 114, 114, 99, 105]⟩ else
 bif op == 67 then ⟨#[109, 114, 101, 116]⟩ else
 bif op == 68 then ⟨#[115, 114, 101, 116]⟩ else
 bif op == 69 then ⟨#[119, 102, 105]⟩ else
 bif op == 70 then ⟨#[115, 102, 101, 110, 99, 101, 46, 118, 109, 97]⟩ else
 bif op == 71 then ⟨#[46, 119, 111, 114, 100]⟩ else
 bif op == 72 then ⟨#[46, 104, 97, 108, 102]⟩ else
 ⟨#[]⟩
def nameFourth (op : Int) : ByteArray :=
 bif op == 37 then ⟨#[97, 110, 100]⟩ else
 bif op == 38 then ⟨#[102, 101, 110, 99, 101]⟩ else
 bif op == 39 then ⟨#[102, 101, 110, 99, 101, 46, 105]⟩ else
 bif op == 40 then ⟨#[101, 99, 97, 108, 108]⟩ else
 bif op == 41 then ⟨#[101, 98, 114, 101, 97, 107]⟩ else
 bif op == 42 then ⟨#[109, 117, 108]⟩ else
 bif op == 43 then ⟨#[109, 117, 108, 104]⟩ else
 bif op == 44 then ⟨#[109, 117, 108, 104, 115, 117]⟩ else
 bif op == 45 then ⟨#[109, 117, 108, 104, 117]⟩ else
 bif op == 46 then ⟨#[100, 105, 118]⟩ else
 bif op == 47 then ⟨#[100, 105, 118, 117]⟩ else
 bif op == 48 then ⟨#[114, 101, 109]⟩ else
 bif op == 49 then ⟨#[114, 101, 109, 117]⟩ else
 bif op == 50 then ⟨#[108, 114, 46, 119]⟩ else
 bif op == 51 then ⟨#[115, 99, 46, 119]⟩ else
 bif op == 52 then ⟨#[97, 109, 111, 115, 119, 97, 112, 46, 119]⟩ else
 bif op == 53 then ⟨#[97, 109, 111, 97, 100, 100, 46, 119]⟩ else
 bif op == 54 then ⟨#[97, 109, 111, 120, 111, 114, 46, 119]⟩ else
 nameLast op
def nameThird (op : Int) : ByteArray :=
 bif op == 28 then ⟨#[97, 100, 100]⟩ else
 bif op == 29 then ⟨#[115, 117, 98]⟩ else
 bif op == 30 then ⟨#[115, 108, 108]⟩ else
 bif op == 31 then ⟨#[115, 108, 116]⟩ else
 bif op == 32 then ⟨#[115, 108, 116, 117]⟩ else
 bif op == 33 then ⟨#[120, 111, 114]⟩ else
 bif op == 34 then ⟨#[115, 114, 108]⟩ else
 bif op == 35 then ⟨#[115, 114, 97]⟩ else
 bif op == 36 then ⟨#[111, 114]⟩ else
 nameFourth op
def nameSecond (op : Int) : ByteArray :=
 bif op == 19 then ⟨#[97, 100, 100, 105]⟩ else
 bif op == 20 then ⟨#[115, 108, 116, 105]⟩ else
 bif op == 21 then ⟨#[115, 108, 116, 105, 117]⟩ else
 bif op == 22 then ⟨#[120, 111, 114, 105]⟩ else
 bif op == 23 then ⟨#[111, 114, 105]⟩ else
 bif op == 24 then ⟨#[97, 110, 100, 105]⟩ else
 bif op == 25 then ⟨#[115, 108, 108, 105]⟩ else
 bif op == 26 then ⟨#[115, 114, 108, 105]⟩ else
 bif op == 27 then ⟨#[115, 114, 97, 105]⟩ else
 nameThird op
def name (op : Int) : ByteArray :=
 bif op == 1 then ⟨#[108, 117, 105]⟩ else
 bif op == 2 then ⟨#[97, 117, 105, 112, 99]⟩ else
 bif op == 3 then ⟨#[106, 97, 108]⟩ else
 bif op == 4 then ⟨#[106, 97, 108, 114]⟩ else
 bif op == 5 then ⟨#[98, 101, 113]⟩ else
 bif op == 6 then ⟨#[98, 110, 101]⟩ else
 bif op == 7 then ⟨#[98, 108, 116]⟩ else
 bif op == 8 then ⟨#[98, 103, 101]⟩ else
 bif op == 9 then ⟨#[98, 108, 116, 117]⟩ else
 bif op == 10 then ⟨#[98, 103, 101, 117]⟩ else
 bif op == 11 then ⟨#[108, 98]⟩ else
 bif op == 12 then ⟨#[108, 104]⟩ else
 bif op == 13 then ⟨#[108, 119]⟩ else
 bif op == 14 then ⟨#[108, 98, 117]⟩ else
 bif op == 15 then ⟨#[108, 104, 117]⟩ else
 bif op == 16 then ⟨#[115, 98]⟩ else
 bif op == 17 then ⟨#[115, 104]⟩ else
 bif op == 18 then ⟨#[115, 119]⟩ else
 nameSecond op
def shape (op : Int) : ByteArray :=
 bif op == 1 || op == 2 then ⟨#[100, 105]⟩ else
 bif op == 3 then ⟨#[100, 106]⟩ else
 bif op == 4 then ⟨#[100, 109]⟩ else
 bif decide (5 <= op) && decide (op <= 10) then ⟨#[115, 116, 106]⟩ else
 bif decide (11 <= op) && decide (op <= 15) then ⟨#[100, 109]⟩ else
 bif decide (16 <= op) && decide (op <= 18) then ⟨#[116, 109]⟩ else
 bif (decide (19 <= op) && decide (op <= 27)) || op == 38 || op == 39 || op == 50 then ⟨#[100, 115, 105]⟩ else
 bif (decide (28 <= op) && decide (op <= 37)) || (decide (42 <= op) && decide (op <= 49)) then ⟨#[100, 115, 116]⟩ else
 bif decide (51 <= op) && decide (op <= 60) then ⟨#[100, 116, 115, 105]⟩ else
 bif decide (61 <= op) && decide (op <= 63) then ⟨#[100, 105, 115]⟩ else
 bif decide (64 <= op) && decide (op <= 66) then ⟨#[100, 105, 117]⟩ else
 bif op == 70 then ⟨#[115, 116]⟩ else
 bif op == 71 || op == 72 then ⟨#[105]⟩ else ⟨#[]⟩
end Nm
theorem a_nameLast (op : Int) (w : World) :
 CS 404 #[.int .i64 op] (.string (Nm.nameLast op)) w := by
 go_enter func404, ntmps404
 go_wp2
 all_goals go_ret
 all_goals exact ⟨by simp [Nm.nameLast, *], rfl⟩
theorem a_nameFourth (op : Int) (w : World) :
 CS 381 #[.int .i64 op] (.string (Nm.nameFourth op)) w := by
 go_enter func381, ntmps381
 go_wp2_with (go_at_call 404; refine (a_nameLast op _).mono ?_; rintro e w' ⟨rfl, rfl⟩)
 all_goals go_ret
 all_goals exact ⟨by simp [Nm.nameFourth, *], rfl⟩
theorem a_nameThird (op : Int) (w : World) :
 CS 353 #[.int .i64 op] (.string (Nm.nameThird op)) w := by
 go_enter func353, ntmps353
 go_wp2_with (go_at_call 381; refine (a_nameFourth op _).mono ?_; rintro e w' ⟨rfl, rfl⟩)
 all_goals go_ret
 all_goals exact ⟨by simp [Nm.nameThird, *], rfl⟩
theorem a_nameSecond (op : Int) (w : World) :
 CS 301 #[.int .i64 op] (.string (Nm.nameSecond op)) w := by
 go_enter func301, ntmps301
 go_wp2_with (go_at_call 353; refine (a_nameThird op _).mono ?_; rintro e w' ⟨rfl, rfl⟩)
 all_goals go_ret
 all_goals exact ⟨by simp [Nm.nameSecond, *], rfl⟩
theorem a_Name (op : Int) (w : World) :
 CS 212 #[.int .i64 op] (.string (Nm.name op)) w := by
 go_enter func212, ntmps212
 go_wp2_with (go_at_call 301; refine (a_nameSecond op _).mono ?_; rintro e w' ⟨rfl, rfl⟩)
 all_goals go_ret
 all_goals exact ⟨by simp [Nm.name, *], rfl⟩
theorem shape_ways (op : Int) : Nm.shape op =
 if op = 1 \/ op = 2 then ⟨#[100, 105]⟩ else
 if op = 3 then ⟨#[100, 106]⟩ else
 if op = 4 then ⟨#[100, 109]⟩ else
 if 5 <= op /\ op <= 10 then ⟨#[115, 116, 106]⟩ else
 if 11 <= op /\ op <= 15 then ⟨#[100, 109]⟩ else
 if 16 <= op /\ op <= 18 then ⟨#[116, 109]⟩ else
 if (19 <= op /\ op <= 27) \/ op = 38 \/ op = 39 \/ op = 50 then ⟨#[100, 115, 105]⟩ else
 if (28 <= op /\ op <= 37) \/ (42 <= op /\ op <= 49) then ⟨#[100, 115, 116]⟩ else
 if 51 <= op /\ op <= 60 then ⟨#[100, 116, 115, 105]⟩ else
 if 61 <= op /\ op <= 63 then ⟨#[100, 105, 115]⟩ else
 if 64 <= op /\ op <= 66 then ⟨#[100, 105, 117]⟩ else
 if op = 70 then ⟨#[115, 116]⟩ else
 if op = 71 \/ op = 72 then ⟨#[105]⟩ else ⟨#[]⟩ := by
 unfold Nm.shape
 simp only [Bool.cond_eq_ite, Bool.or_eq_true, Bool.and_eq_true, decide_eq_true_eq, beq_iff_eq, or_assoc]
theorem a_Shape (op : Int) (w : World) :
 CS 215 #[.int .i64 op] (.string (Nm.shape op)) w := by
 go_enter func215, ntmps215
 go_wp2
 all_goals go_ret
 all_goals go_light
 all_goals refine ⟨congrArg (fun s => Ending.returned (Value.string s)) (?_ : _ = Nm.shape op), rfl⟩
 all_goals try simp only [beq_iff_eq, beq_eq_false_iff_ne, ne_eq] at *
 all_goals first | (exfalso; omega) | (rw [shape_ways]; repeat (first | rw [if_pos (by omega)] | rw [if_neg (by omega)]))
def sgn (a : Int) : Int := if 2147483648 <= a then a - 4294967296 else a
theorem or_and : ∀ (n a b : Nat), a <= n -> (a ||| b) + (a &&& b) = a + b
 | 0, a, b, h => by
  obtain rfl : a = 0 := by omega
  simp
 | n + 1, a, b, h => by
  by_cases hz : a = 0
  . subst hz; simp
  have ih := or_and n (a / 2) (b / 2) (by omega)
  have h1 : (a ||| b) / 2 = a / 2 ||| b / 2 := Nat.or_div_two
  have h2 : (a &&& b) / 2 = a / 2 &&& b / 2 := Nat.and_div_two
  have h3 : (a ||| b) % 2 = 1 ↔ a % 2 = 1 \/ b % 2 = 1 := Nat.or_mod_two_eq_one
  have h4 : (a &&& b) % 2 = 1 ↔ a % 2 = 1 /\ b % 2 = 1 := Nat.and_mod_two_eq_one
  omega
theorem ndiv (a p : Nat) : (a : Int).tdiv (p : Int) = ((a / p : Nat) : Int) := by rw [Int.tdiv_eq_ediv_of_nonneg (by omega)]; simp
def wout (a b : Nat) : Nat := a - (a &&& b)
def wordN (x : Int) : Nat := (x % 4294967296).toNat
theorem wordN_cast (x : Int) : ((wordN x : Nat) : Int) = x % 4294967296 := by unfold wordN; omega
def alu_add (a b : Nat) : Nat := (a + b) % 4294967296
def alu_sub (a b : Nat) : Nat := wordN ((a : Int) - b)
def alu_slt (a b : Nat) : Nat := if sgn a < sgn b then 1 else 0
def alu_sltu (a b : Nat) : Nat := if a < b then 1 else 0
def alu_xor (a b : Nat) : Nat := a ^^^ b
def alu_or (a b : Nat) : Nat := a ||| b
def alu_and (a b : Nat) : Nat := a &&& b
def alu_sll (a b : Nat) : Nat := a * 2 ^ (b % 32) % 4294967296
def alu_srl (a b : Nat) : Nat := a / 2 ^ (b % 32)
def alu_sra (a b : Nat) : Nat := wordN (sgn a / ((2 ^ (b % 32) : Nat) : Int))
def alu_mul (a b : Nat) : Nat := a * b % 4294967296
def alu_mulh (a b : Nat) : Nat := wordN (sgn a * sgn b / 4294967296)
def alu_mulhsu (a b : Nat) : Nat := wordN (sgn a * b / 4294967296)
def alu_mulhu (a b : Nat) : Nat := a * b / 4294967296
def alu_div (a b : Nat) : Nat := if b = 0 then 4294967295 else wordN ((sgn a).tdiv (sgn b))
def alu_divu (a b : Nat) : Nat := if b = 0 then 4294967295 else a / b
def alu_rem (a b : Nat) : Nat := if b = 0 then a else wordN (sgn a - (sgn a).tdiv (sgn b) * sgn b)
def alu_remu (a b : Nat) : Nat := if b = 0 then a else a % b
def alu_swap (_ b : Nat) : Nat := b
def alu_min (a b : Nat) : Nat := if sgn a < sgn b then a else b
def alu_max (a b : Nat) : Nat := if sgn b < sgn a then a else b
def alu_minu (a b : Nat) : Nat := if a < b then a else b
def alu_maxu (a b : Nat) : Nat := if b < a then a else b
def alu (op : Int) (a b : Nat) : Nat :=
 if op = 19 \/ op = 28 \/ op = 53 then alu_add a b else
 if op = 29 then alu_sub a b else
 if op = 20 \/ op = 31 then alu_slt a b else
 if op = 21 \/ op = 32 then alu_sltu a b else
 if op = 22 \/ op = 33 \/ op = 54 then alu_xor a b else
 if op = 23 \/ op = 36 \/ op = 56 then alu_or a b else
 if op = 24 \/ op = 37 \/ op = 55 then alu_and a b else
 if op = 25 \/ op = 30 then alu_sll a b else
 if op = 26 \/ op = 34 then alu_srl a b else
 if op = 27 \/ op = 35 then alu_sra a b else
 if op = 42 then alu_mul a b else
 if op = 43 then alu_mulh a b else
 if op = 44 then alu_mulhsu a b else
 if op = 45 then alu_mulhu a b else
 if op = 46 then alu_div a b else
 if op = 47 then alu_divu a b else
 if op = 48 then alu_rem a b else
 if op = 49 then alu_remu a b else
 if op = 52 then alu_swap a b else
 if op = 57 then alu_min a b else
 if op = 58 then alu_max a b else
 if op = 59 then alu_minu a b else
 if op = 60 then alu_maxu a b else
 0
theorem sgn_bd (a : Nat) (h : a < 4294967296) : -2147483648 <= sgn a /\ sgn a <= 2147483647 := by unfold sgn; split <;> omega
theorem sgn_zero (b : Nat) (h : b < 4294967296) : (sgn b = 0) ↔ b = 0 := by unfold sgn; split <;> omega
def holds (op : Int) (a b : Nat) : Bool :=
 if op = 5 then decide (a = b) else if op = 6 then !decide (a = b) else if op = 7 then decide (sgn a < sgn b) else if op = 8 then decide (sgn b <= sgn a) else if op = 9 then decide (a < b) else if op = 10 then decide (b <= a) else false
structure Kept (F : List Nat) (w w' : World) : Prop where
 os : w'.os = w.os
 tape : w'.tape = w.tape
 output : w'.output = w.output
 size : w.heap.size <= w'.heap.size
 block : ∀ k, k < w.heap.size -> k ∉ F -> w'.heap[k]? = w.heap[k]?
abbrev CK (f : Nat) (a : Array Value) (r : Value) (w : World) : Prop := Calls prog f a w fun e w' => e = .returned r /\ Kept [] w w'
theorem Kept.refl (F : List Nat) (w : World) : Kept F w w := ⟨rfl, rfl, rfl, Nat.le_refl _, fun _ _ _ => rfl⟩
theorem Kept.trans {F : List Nat} {a b c : World} (h : Kept F a b) (k : Kept F b c) : Kept F a c :=
 ⟨k.os.trans h.os, k.tape.trans h.tape, k.output.trans h.output, Nat.le_trans h.size k.size, fun i hi hn => (k.block i (Nat.lt_of_lt_of_le hi h.size) hn).trans (h.block i hi hn)⟩
theorem Kept.mono {F G : List Nat} {a b : World} (h : Kept F a b) (hs : ∀ k ∈ F, k ∈ G) : Kept G a b := ⟨h.os, h.tape, h.output, h.size, fun i hi hn => h.block i hi (fun h' => hn (hs i h'))⟩
theorem Kept.alloc {F : List Nat} {a w : World} (h : Kept F a w) (o : Obj) : Kept F a (w.alloc o) :=
 ⟨h.os, h.tape, h.output, Nat.le_trans h.size (by simp), fun i hi hn => (Below.heap_alloc w o i (Nat.lt_of_lt_of_le hi h.size)).trans (h.block i hi hn)⟩
theorem Kept.setCell {F : List Nat} {a w : World} (h : Kept F a w) {p : Addr} (hp : p.block ∈ F \/ a.heap.size <= p.block) (u : Value) : Kept F a (w.setCell p u) := by
 have hb := (Below.refl w.heap.size w)
 refine ⟨h.os, h.tape, h.output, Nat.le_trans h.size ?_, fun i hi hn => (Below.heap_setCell w p u i ?_).trans (h.block i hi hn)⟩
 . exact ((Below.refl 0 w).setCell (Nat.zero_le _) u).size
 . intro e; subst e
   rcases hp with hp | hp
   . exact hn hp
   . omega
theorem Kept.drew {F : List Nat} {a w : World} (h : Kept F a w) : Kept F a w.drew := ⟨h.os, h.tape, h.output, h.size, h.block⟩
theorem Below.kept {w w' : World} (h : Below w.heap.size w w') (F : List Nat) : Kept F w w' := ⟨h.os, h.tape, h.output, h.size, fun k hk _ => h.block k hk⟩
theorem Kept.cell {F : List Nat} {w w' : World} (h : Kept F w w') {p : Addr} (hp : p.block < w.heap.size) (hn : p.block ∉ F) : w'.cell? p = w.cell? p := World.cell?_of_block (w := w) (h.block p.block hp hn)
theorem Kept.frozen {F : List Nat} {w w' : World} (h : Kept F w w') {p : Addr} (hp : p.block < w.heap.size) (hn : p.block ∉ F) : w'.frozen? p = w.frozen? p := World.frozen?_of_block (w := w) (h.block p.block hp hn)
structure BusS where
 ram : List UInt8
 msip : Nat
 time : Nat
 timeh : Nat
 cmp : Nat
 cmph : Nat
 enable : Nat
 scratch : Nat
 lost : Bool
 rx : ByteArray
 tx : ByteArray
structure BusOk (B : BusS) : Prop where
 ram : B.ram.length <= 65536
 msip : B.msip < 2
 time : B.time < 4294967296
 timeh : B.timeh < 4294967296
 cmp : B.cmp < 4294967296
 cmph : B.cmph < 4294967296
 enable : B.enable < 8
 scratch : B.scratch < 256
 rx : B.rx.size <= 4
 tx : B.tx.size <= 8
def holdsD (pa n : Int) (len : Nat) : Bool := decide (1 <= n /\ n <= 4 /\ 2147483648 <= pa /\ pa <= 2147483648 + len - n)
def isTmr (pa : Int) : Bool := decide (pa = 33554432 \/ pa = 33570816 \/ pa = 33570820 \/ pa = 33603576 \/ pa = 33603580)
def isPrt (pa : Int) : Bool := decide (pa = 268435456 \/ pa = 268435457 \/ pa = 268435458 \/ pa = 268435461 \/ pa = 268435463)
def takesD (pa n : Int) (len : Nat) : Bool := if holdsD pa n len = true then true else if isTmr pa = true then decide (n = 4) else if isPrt pa = true then decide (n = 1) else false
def whyD (B : BusS) : Nat := if (decide (B.enable / 4 % 2 = 1) && B.lost) = true then 6 else if (decide (B.enable % 2 = 1) && decide (0 < B.rx.size)) = true then 4 else if (decide (B.enable / 2 % 2 = 1) && decide (B.tx.size < 8)) = true then 2 else 1
def statD (B : BusS) : Nat := (if decide (0 < B.rx.size) = true then 1 else 0) + (if B.lost = true then 2 else 0) + (if decide (B.tx.size < 8) = true then 32 else 0) + (if decide (B.tx.size = 0) = true then 64 else 0)
def mtipD (B : BusS) : Bool := if decide (B.cmph < B.timeh) = true then true else if decide (B.timeh = B.cmph) = true then decide (B.cmp <= B.time) else false
def ldN : List UInt8 -> Nat
 | [] => 0
 | c :: l => c.toNat + 256 * ldN l
theorem ldN_lt : ∀ l : List UInt8, ldN l < 256 ^ l.length
 | [] => by simp [ldN]
 | c :: l => by
  have := ldN_lt l
  have hc := u8_bd c
  simp only [ldN, List.length_cons, Nat.pow_succ]; omega
def rdRam (B : BusS) (p n : Nat) : Nat := ldN ((B.ram.drop p).take n)
def readV (B : BusS) (pa : Int) : Nat × BusS :=
 if pa = 33554432 then (B.msip, B) else if pa = 33570816 then (B.cmp, B) else if pa = 33570820 then (B.cmph, B) else if pa = 33603576 then (B.time, B) else if pa = 33603580 then (B.timeh, B)
 else if pa = 268435456 then (if h : 0 < B.rx.size then (B.rx[0].toNat, { B with rx := B.rx.extract 1 B.rx.size }) else (0, B))
 else if pa = 268435457 then (B.enable, B) else if pa = 268435458 then (whyD B, B) else if pa = 268435461 then (statD B, { B with lost := false }) else (B.scratch, B)
def readD (B : BusS) (pa n : Int) : Nat × BusS := if holdsD pa n B.ram.length = true then (rdRam B (pa - 2147483648).toNat n.toNat, B) else if takesD pa n B.ram.length = true then readV B pa else (0, B)
theorem takes_n {pa n : Int} {L : Nat} (h : holdsD pa n L = false) (ht : takesD pa n L = true) : (isTmr pa = true /\ n = 4) \/ (isPrt pa = true /\ n = 1) := by
 unfold takesD at ht
 rw [h] at ht
 simp only [Bool.false_eq_true, if_false] at ht
 split at ht
 . next h1 => left; exact ⟨h1, by simpa using ht⟩
 . split at ht
   . next h1 => right; exact ⟨h1, by simpa using ht⟩
   . cases ht
def leL (v : Int) : Nat -> List Int
 | 0 => []
 | n + 1 => leL v n ++ [v / 256 ^ n % 256]
theorem Tryz.info5 : (prog.info? 5).map (fun i => (i.zero, i.size, i.bytes)) = some (some (.int .u8 0), 1, 1) := by kernel_rfl
theorem own_string {P : Program} {w : World} {base k : Nat} {b : Value} {xs : List Int} (src dst : TypeId) {e : TypeId} (hs : P.underlying src = some (.slice e)) (he : P.underlying e = some (.int .u8)) (hd : P.underlying dst = some .string)
 (h : w.ownsRow base e 1 b k (xs.map (Value.int .u8))) : (convert src dst b).run P w = .ok (.string (strOfNums xs)) w := by
 have hl := h.1
 rcases h.2 with ⟨rfl, rfl⟩ | ⟨g, cap, cur, rfl, hb, hg, rest⟩
 . have : xs = [] := by simpa using hl
   subst this
   exact run_convert_bytes_nil w src e hs he 0 0 dst hd
 . simp at hl
   refine run_convert_bytes_arg w src e hs he g 0 k cap xs hl (fun i hi => ?_) dst hd
   have := h.cells (g := g) rfl i (.int .u8 (xs.getD i 0)) (by simp [List.getElem?_map, List.getD, List.getElem?_eq_getElem (show i < xs.length by omega)])
   have hplain : (⟨g, 0, none⟩ : Addr).add i = ⟨g, 0 + i, none⟩ := by unfold Addr.add; split <;> simp_all
   rw [hplain] at this
   exact this
theorem a_Le (v : Int) (n : Nat) (hn : n <= 8) (w : World) :
 CB 147 #[.int .i64 v, .int .i64 n] (.string (strOfNums (leL v n))) w := by
 have hmk : ∀ w, (Instr.makeSlice 64 (.int .i64 0) (.int .i64 8)).run prog w = .ok (.slice (some ⟨w.heap.size, 0, none⟩) 0 8) (w.alloc (.cells #[.int .u8 0, .int .u8 0, .int .u8 0, .int .u8 0, .int .u8 0, .int .u8 0, .int .u8 0, .int .u8 0] 5)) := fun _ => by kernel_rfl
 obtain ⟨i0, hi, hz0, hz1, hz2⟩ := info_parts Tryz.info5
 go_enter func147, ntmps147
 exact zq204
theorem u_Le (v : Int) (n : Nat) (hn : n <= 8) (w : World) :
 CB 89 #[.int .i64 v, .int .i64 n] (.string (strOfNums (leL v n))) w := by
 have hmk : ∀ w, (Instr.makeSlice 64 (.int .i64 0) (.int .i64 8)).run prog w = .ok (.slice (some ⟨w.heap.size, 0, none⟩) 0 8) (w.alloc (.cells #[.int .u8 0, .int .u8 0, .int .u8 0, .int .u8 0, .int .u8 0, .int .u8 0, .int .u8 0, .int .u8 0] 5)) := fun _ => by kernel_rfl
 obtain ⟨i0, hi, hz0, hz1, hz2⟩ := info_parts Tryz.info5
 go_enter func89, ntmps89
 exact zq204
theorem add_strR {a b c : ByteArray} (h : a ++ b = c) (hl : a.size + b.size <= 100000) (w : World) : (Op.stringOp .add a b).run prog w = .ok (.string c) w := by
 rw [<- h]; exact run_string_add_sum w a b (by omega)
theorem leLR_length (v : Int) : ∀ n, (leL v n).length = n
 | 0 => rfl
 | n + 1 => by simp [leL, leLR_length v n]
theorem strNumsR_size (l : List Int) : (strOfNums l).size = l.length := by
 unfold strOfNums; simp [ByteArray.size]
def stN : List UInt8 -> Nat -> Nat -> Nat -> List UInt8
 | r, _, 0, _ => r
 | r, p, n + 1, v => stN (r.set p (UInt8.ofNat v)) (p + 1) n (v / 256)
theorem stN_length : ∀ (n : Nat) (r : List UInt8) (p v : Nat), (stN r p n v).length = r.length
 | 0, r, p, v => rfl
 | n + 1, r, p, v => by simp only [stN]; rw [stN_length n]; simp
def writeV (B : BusS) (pa : Int) (v : Nat) : BusS :=
 if pa = 33554432 then { B with msip := v % 2 } else if pa = 33570816 then { B with cmp := v } else if pa = 33570820 then { B with cmph := v } else if pa = 33603576 then { B with time := v } else if pa = 33603580 then { B with timeh := v }
 else if pa = 268435456 then (if B.tx.size < 8 then { B with tx := B.tx ++ strOfNums (leL v 1) } else B)
 else if pa = 268435457 then { B with enable := v % 8 } else if pa = 268435463 then { B with scratch := v % 256 } else B
def writeD (B : BusS) (pa n : Int) (v : Nat) : BusS := if holdsD pa n B.ram.length = true then { B with ram := stN B.ram (pa - 2147483648).toNat n.toNat v } else if takesD pa n B.ram.length = true then writeV B pa v else B
def tickD (B : BusS) (n : Nat) : BusS := { B with time := (B.time + n) % 4294967296, timeh := (B.timeh + (B.time + n) / 4294967296) % 4294967296 }
def busRe (B : BusS) : BusS := { ram := B.ram, msip := 0, time := 0, timeh := 0, cmp := 4294967295, cmph := 4294967295, enable := 0, scratch := 0, lost := false, rx := ⟨#[]⟩, tx := ⟨#[]⟩ }
theorem wrap_in (n : Int) (h : -9223372036854775808 <= n /\ n <= 9223372036854775807) : IntKind.i64.wrap n = n := by
 simp [IntKind.wrap, IntKind.bits, IntKind.signed]; omega
def feedG (s : ByteArray) : Nat -> Nat -> Nat -> BusS -> Nat × BusS
 | 0, _, n, B => (n, B)
 | f + 1, i, n, B => if B.rx.size < 4 then feedG s f (i + 1) (n + 1) { B with rx := B.rx ++ s.extract i (i + 1) } else feedG s f (i + 1) n { B with lost := true }
def laidB : List UInt8 -> Nat -> List UInt8 -> List UInt8
 | r, _, [] => r
 | r, p, c :: l => laidB (r.set p c) (p + 1) l
theorem laidB_length : ∀ (l r : List UInt8) (p : Nat), (laidB r p l).length = r.length
 | [], r, p => rfl
 | c :: l, r, p => by simp only [laidB]; rw [laidB_length l]; simp
def loadE (B : BusS) (off : Int) (s : ByteArray) : Int := if 65536 < s.size then 1 else if off < 0 \/ (B.ram.length : Int) - s.size < off then 2 else 0
def pkB (r : List UInt8) (off n : Nat) : ByteArray := strOfNums (((r.drop off).take n).map fun c => (c.toNat : Int))
def leA (v : Int) (n : Nat) : ByteArray := strOfNums (leL v n)
theorem leA_size (v : Int) (n : Nat) : (leA v n).size = n := by unfold leA; rw [strNumsR_size, leLR_length]
theorem v_Le4 (v : Int) (w : World) : CB 89 #[.int .i64 v, .int .i64 4] (.string (leA v 4)) w := u_Le v 4 (by omega) w
theorem add_in (a b : ByteArray) (h : a.size + b.size <= 100000) : ∃ c : ByteArray, c = a ++ b /\ c.size = a.size + b.size /\ ∀ w, (Op.stringOp .add a b).run prog w = .ok (.string c) w :=
 ⟨_, rfl, by rw [ByteArray.size_append], fun w => add_strR rfl h w⟩
structure CsrS where
 mode : Nat
 sie : Nat
 mie : Nat
 spie : Nat
 mpie : Nat
 spp : Nat
 mpp : Nat
 mprv : Nat
 sum : Nat
 mxr : Nat
 tvm : Nat
 tw : Nat
 tsr : Nat
 mtvec : Nat
 mscratch : Nat
 mepc : Nat
 mcause : Nat
 mtval : Nat
 mcen : Nat
 stvec : Nat
 sscratch : Nat
 sepc : Nat
 scause : Nat
 stval : Nat
 scen : Nat
 medeleg : Nat
 mideleg : Nat
 enable : Nat
 soft : Nat
 inhibit : Nat
 satp : Nat
 cycle : Nat
 cycleh : Nat
 ret : Nat
 reth : Nat
 held : Nat
 wroteC : Bool
 wroteI : Bool
def actsD (C : CsrS) (kind : Int) : Nat := if decide (kind = 0) = true then C.mode else if decide (C.mprv = 1) = true then C.mpp else C.mode
def bitN (e i : Nat) : Bool := decide (e / 2 ^ i % 2 = 1)
def allB (mode kind : Nat) (u r w x sum mxr : Bool) : Bool :=
 if decide (mode = 0) = true /\ u = false then false
 else if decide (mode = 1) = true /\ u = true /\ (decide (kind = 0) = true \/ sum = false) then false
 else if kind = 0 then x else if kind = 1 then (if r = true then true else if mxr = true then x else false) else w
def allD (C : CsrS) (e kind mode : Nat) : Bool := allB mode kind (bitN e 4) (bitN e 1) (bitN e 2) (bitN e 3) (decide (C.sum = 1)) (decide (C.mxr = 1))
def spanN (lvl : Nat) : Nat := if lvl = 1 then 4194304 else 4096
def adB (a d : Bool) (kind : Nat) : Nat := if a = true then (if kind = 2 then (if d = true then 0 else 128) else 0) else (if kind = 2 then (if d = true then 64 else 192) else 64)
def leafD (B : BusS) (C : CsrS) (e a lvl va kind mode : Nat) : (Nat × Nat) × BusS :=
 if allD C e kind mode = false then ((0, 1), B)
 else if lvl = 1 /\ ¬ e / 1024 % 1024 = 0 then ((0, 1), B)
 else ((e / 1024 * 4096 + va % spanN lvl, 0), if adB (bitN e 6) (bitN e 7) kind = 0 then B else { B with ram := stN B.ram (a - 2147483648) 4 (e + adB (bitN e 6) (bitN e 7) kind) })
def entA (table va lvl : Nat) : Nat := table + va / spanN lvl % 1024 * 4
def entE (B : BusS) (a : Nat) : Nat := rdRam B (a - 2147483648) 4
def walk0 (B : BusS) (C : CsrS) (table va kind mode : Nat) : (Nat × Nat) × BusS :=
 if holdsD (entA table va 0 : Nat) 4 B.ram.length = false then ((0, 2), B)
 else if bitN (entE B (entA table va 0)) 0 = false \/ (bitN (entE B (entA table va 0)) 2 = true /\ bitN (entE B (entA table va 0)) 1 = false) then ((0, 1), B)
 else if bitN (entE B (entA table va 0)) 1 = false /\ bitN (entE B (entA table va 0)) 3 = false then ((0, 1), B)
 else leafD B C (entE B (entA table va 0)) (entA table va 0) 0 va kind mode
def walk1 (B : BusS) (C : CsrS) (table va kind mode : Nat) : (Nat × Nat) × BusS :=
 if holdsD (entA table va 1 : Nat) 4 B.ram.length = false then ((0, 2), B)
 else if bitN (entE B (entA table va 1)) 0 = false \/ (bitN (entE B (entA table va 1)) 2 = true /\ bitN (entE B (entA table va 1)) 1 = false) then ((0, 1), B)
 else if bitN (entE B (entA table va 1)) 1 = false /\ bitN (entE B (entA table va 1)) 3 = false then
  (if bitN (entE B (entA table va 1)) 4 = true \/ bitN (entE B (entA table va 1)) 6 = true \/ bitN (entE B (entA table va 1)) 7 = true then ((0, 1), B)
   else walk0 B C (entE B (entA table va 1) / 1024 * 4096) va kind mode)
 else leafD B C (entE B (entA table va 1)) (entA table va 1) 1 va kind mode
theorem entE_lt (B : BusS) (a : Nat) : entE B a < 4294967296 := by
 unfold entE rdRam
 have h := ldN_lt ((B.ram.drop (a - 2147483648)).take 4)
 have hl : ((B.ram.drop (a - 2147483648)).take 4).length <= 4 := by simp; omega
 have h2 : 256 ^ ((B.ram.drop (a - 2147483648)).take 4).length <= 256 ^ 4 := Nat.pow_le_pow_right (by omega) hl
 omega
theorem holdsD_at {a L : Nat} (h : holdsD (a : Nat) 4 L = true) : 2147483648 <= a /\ a - 2147483648 + 4 <= L := by
 unfold holdsD at h
 simp at h
 omega
theorem writeV_ok {B : BusS} (hB : BusOk B) (pa : Int) (v : Nat) (hv : v < 4294967296) : BusOk (writeV B pa v) := by
 have e := hB
 unfold writeV
 repeat' split
 all_goals first
  | exact hB
  | exact ⟨e.ram, by show _ % _ < _; omega, e.time, e.timeh, e.cmp, e.cmph, e.enable, e.scratch, e.rx, e.tx⟩
  | exact ⟨e.ram, e.msip, e.time, e.timeh, hv, e.cmph, e.enable, e.scratch, e.rx, e.tx⟩
  | exact ⟨e.ram, e.msip, e.time, e.timeh, e.cmp, hv, e.enable, e.scratch, e.rx, e.tx⟩
  | exact ⟨e.ram, e.msip, hv, e.timeh, e.cmp, e.cmph, e.enable, e.scratch, e.rx, e.tx⟩
  | exact ⟨e.ram, e.msip, e.time, hv, e.cmp, e.cmph, e.enable, e.scratch, e.rx, e.tx⟩
  | exact ⟨e.ram, e.msip, e.time, e.timeh, e.cmp, e.cmph, by show _ % _ < _; omega, e.scratch, e.rx, e.tx⟩
  | exact ⟨e.ram, e.msip, e.time, e.timeh, e.cmp, e.cmph, e.enable, by show _ % _ < _; omega, e.rx, e.tx⟩
  | (refine ⟨e.ram, e.msip, e.time, e.timeh, e.cmp, e.cmph, e.enable, e.scratch, e.rx, ?_⟩
     show (B.tx ++ strOfNums (leL v 1)).size <= 8
     rw [ByteArray.size_append, strNumsR_size, leLR_length]; omega)
theorem writeV_ram (B : BusS) (pa : Int) (v : Nat) : (writeV B pa v).ram = B.ram := by
 unfold writeV
 repeat' split
 all_goals rfl
theorem setRam_ok {B : BusS} (hB : BusOk B) {r : List UInt8} (h : r.length = B.ram.length) : BusOk { B with ram := r } := ⟨by show r.length <= _; rw [h]; exact hB.ram, hB.msip, hB.time, hB.timeh, hB.cmp, hB.cmph, hB.enable, hB.scratch, hB.rx, hB.tx⟩
theorem writeD_ok {B : BusS} (hB : BusOk B) (pa n : Int) (v : Nat) (hv : v < 4294967296) : BusOk (writeD B pa n v) := by
 unfold writeD
 split
 . exact setRam_ok hB (stN_length _ _ _ _)
 . split
   . exact writeV_ok hB pa v hv
   . exact hB
theorem writeD_len (B : BusS) (pa n : Int) (v : Nat) : (writeD B pa n v).ram.length = B.ram.length := by
 unfold writeD
 split
 . exact stN_length _ _ _ _
 . split
   . rw [writeV_ram]
   . rfl
theorem readV_ok {B : BusS} (hB : BusOk B) (pa : Int) : BusOk (readV B pa).2 := by
 have e := hB
 unfold readV
 repeat' split
 all_goals first
  | exact hB
  | exact ⟨e.ram, e.msip, e.time, e.timeh, e.cmp, e.cmph, e.enable, e.scratch, by show (B.rx.extract 1 B.rx.size).size <= 4; rw [ByteArray.size_extract]; have := e.rx; omega, e.tx⟩
  | exact ⟨e.ram, e.msip, e.time, e.timeh, e.cmp, e.cmph, e.enable, e.scratch, e.rx, e.tx⟩
theorem readV_ram (B : BusS) (pa : Int) : (readV B pa).2.ram = B.ram := by
 unfold readV
 repeat' split
 all_goals rfl
theorem readD_ok {B : BusS} (hB : BusOk B) (pa n : Int) : BusOk (readD B pa n).2 := by
 unfold readD
 split
 . exact hB
 . split
   . exact readV_ok hB pa
   . exact hB
theorem readD_len (B : BusS) (pa n : Int) : (readD B pa n).2.ram.length = B.ram.length := by
 unfold readD
 split
 . rfl
 . split
   . rw [readV_ram]
   . rfl
theorem rdRam_lt (B : BusS) (p n : Nat) : rdRam B p n < 256 ^ n := by
 unfold rdRam
 have h := ldN_lt ((B.ram.drop p).take n)
 have hl : ((B.ram.drop p).take n).length <= n := by simp; omega
 exact Nat.lt_of_lt_of_le h (Nat.pow_le_pow_right (by omega) hl)
theorem why_lt (B : BusS) : whyD B < 256 := by
 unfold whyD
 repeat' split
 all_goals omega
theorem stat_lt (B : BusS) : statD B < 256 := by
 unfold statD
 repeat' split
 all_goals omega
theorem readD_lt {B : BusS} (hB : BusOk B) (pa : Int) (n : Nat) (_hn : 1 <= n) : (readD B pa n).1 < 256 ^ n := by
 have e := hB
 unfold readD
 split
 . rw [Int.toNat_natCast]; exact rdRam_lt _ _ _
 . rename_i h1
   split
   . rename_i h2
     have h1' : holdsD pa n B.ram.length = false := by simpa using h1
     rcases takes_n h1' h2 with ⟨ht, hn⟩ | ⟨hp, hn⟩
     . have hn4 : n = 4 := by omega
       subst hn4
       have a1 := e.msip; have a2 := e.cmp; have a3 := e.cmph; have a4 := e.time; have a5 := e.timeh
       unfold isTmr at ht
       simp at ht
       show (readV B pa).1 < 4294967296
       rcases ht with rfl | rfl | rfl | rfl | rfl <;> simp [readV] <;> omega
     . have hn1 : n = 1 := by omega
       subst hn1
       have a1 := e.enable; have a2 := e.scratch; have a3 := why_lt B; have a4 := stat_lt B
       unfold isPrt at hp
       simp at hp
       show (readV B pa).1 < 256
       rcases hp with rfl | rfl | rfl | rfl | rfl
       . simp only [readV]; simp
         split
         . exact UInt8.toNat_lt _
         . omega
       all_goals (simp [readV]; omega)
   . exact Nat.pos_of_ne_zero (by simp)
theorem leaf_ok {B : BusS} (hB : BusOk B) (C : CsrS) (e a lvl va kind mode : Nat) : BusOk (leafD B C e a lvl va kind mode).2 := by
 unfold leafD
 repeat' split
 all_goals first
  | exact hB
  | exact setRam_ok hB (stN_length _ _ _ _)
theorem leaf_len (B : BusS) (C : CsrS) (e a lvl va kind mode : Nat) : (leafD B C e a lvl va kind mode).2.ram.length = B.ram.length := by
 unfold leafD
 repeat' split
 all_goals first
  | rfl
  | exact stN_length _ _ _ _
theorem leaf_lt (B : BusS) (C : CsrS) (e a lvl va kind mode : Nat) (he : e < 4294967296) : (leafD B C e a lvl va kind mode).1.1 < 17184063488 /\ (leafD B C e a lvl va kind mode).1.2 <= 2 := by
 have hs : va % spanN lvl < 4194304 := by
  unfold spanN; split <;> omega
 unfold leafD
 exact zq205
theorem walk0_ok {B : BusS} (hB : BusOk B) (C : CsrS) (t va kind mode : Nat) : BusOk (walk0 B C t va kind mode).2 := by
 unfold walk0
 repeat' split
 all_goals first
  | exact hB
  | exact leaf_ok hB _ _ _ _ _ _ _
theorem walk0_len (B : BusS) (C : CsrS) (t va kind mode : Nat) : (walk0 B C t va kind mode).2.ram.length = B.ram.length := by
 unfold walk0
 repeat' split
 all_goals first
  | rfl
  | exact leaf_len _ _ _ _ _ _ _ _
theorem walk0_lt (B : BusS) (C : CsrS) (t va kind mode : Nat) : (walk0 B C t va kind mode).1.1 < 17184063488 /\ (walk0 B C t va kind mode).1.2 <= 2 := by
 unfold walk0
 repeat' split
 all_goals first
  | exact leaf_lt _ _ _ _ _ _ _ _ (entE_lt _ _)
  | exact ⟨by dsimp only; omega, by dsimp only; omega⟩
theorem walk1_ok {B : BusS} (hB : BusOk B) (C : CsrS) (t va kind mode : Nat) : BusOk (walk1 B C t va kind mode).2 := by
 unfold walk1
 repeat' split
 all_goals first
  | exact hB
  | exact leaf_ok hB _ _ _ _ _ _ _
  | exact walk0_ok hB _ _ _ _ _
theorem walk1_len (B : BusS) (C : CsrS) (t va kind mode : Nat) : (walk1 B C t va kind mode).2.ram.length = B.ram.length := by
 unfold walk1
 repeat' split
 all_goals first
  | rfl
  | exact leaf_len _ _ _ _ _ _ _ _
  | exact walk0_len _ _ _ _ _ _
theorem walk1_lt (B : BusS) (C : CsrS) (t va kind mode : Nat) : (walk1 B C t va kind mode).1.1 < 17184063488 /\ (walk1 B C t va kind mode).1.2 <= 2 := by
 unfold walk1
 repeat' split
 all_goals first
  | exact leaf_lt _ _ _ _ _ _ _ _ (entE_lt _ _)
  | exact walk0_lt _ _ _ _ _ _
  | exact ⟨by dsimp only; omega, by dsimp only; omega⟩
def pgD (C : CsrS) (kind : Nat) : Bool := if decide (actsD C kind < 3) = true then decide (2147483648 <= C.satp) else false
def trD (B : BusS) (C : CsrS) (va kind : Nat) : (Nat × Nat) × BusS := if pgD C kind = true then walk1 B C (C.satp % 4194304 * 4096) va kind (actsD C kind) else ((va, 0), B)
theorem tr_ok {B : BusS} (hB : BusOk B) (C : CsrS) (va kind : Nat) : BusOk (trD B C va kind).2 := by
 unfold trD; split
 . exact walk1_ok hB _ _ _ _ _
 . exact hB
theorem tr_len (B : BusS) (C : CsrS) (va kind : Nat) : (trD B C va kind).2.ram.length = B.ram.length := by
 unfold trD; split
 . exact walk1_len _ _ _ _ _ _
 . rfl
theorem tr_lt (B : BusS) (C : CsrS) (va kind : Nat) (h : va < 4294967296) : (trD B C va kind).1.1 < 17184063488 /\ (trD B C va kind).1.2 <= 2 := by
 unfold trD; split
 . exact walk1_lt _ _ _ _ _ _
 . exact zq206
def halfP (t : (Nat × Nat) × BusS) : (Nat × Nat) × BusS :=
 if t.1.2 = 0 then (if holdsD (t.1.1 : Nat) 2 t.2.ram.length = true then ((rdRam t.2 (t.1.1 - 2147483648) 2, 0), t.2) else ((0, 2), t.2)) else ((0, t.1.2), t.2)
def halfD (B : BusS) (C : CsrS) (va : Nat) : (Nat × Nat) × BusS := halfP (trD B C va 0)
theorem half_ok {B : BusS} (hB : BusOk B) (C : CsrS) (va : Nat) : BusOk (halfD B C va).2 := by
 have := tr_ok hB C va 0
 unfold halfD halfP
 exact zq207
theorem half_len (B : BusS) (C : CsrS) (va : Nat) : (halfD B C va).2.ram.length = B.ram.length := by
 have := tr_len B C va 0
 unfold halfD halfP
 exact zq207
theorem half_lt (B : BusS) (C : CsrS) (va : Nat) (h : va < 4294967296) : (halfD B C va).1.1 < 65536 /\ (halfD B C va).1.2 <= 2 := by
 have h2 := (tr_lt B C va 0 h).2
 unfold halfD halfP
 repeat' split
 . have h3 := rdRam_lt (trD B C va 0).2 ((trD B C va 0).1.1 - 2147483648) 2
   exact zq206
 . exact zq206
 . exact ⟨by dsimp only; omega, h2⟩
def wordAtP (t : (Nat × Nat) × BusS) : (Nat × Nat) × BusS :=
 if t.1.2 = 0 then (if holdsD (t.1.1 : Nat) 4 t.2.ram.length = true then t else ((0, 2), t.2)) else t
def wordAtD (B : BusS) (C : CsrS) (va kind : Nat) : (Nat × Nat) × BusS := wordAtP (trD B C va kind)
theorem wordAt_ok {B : BusS} (hB : BusOk B) (C : CsrS) (va kind : Nat) : BusOk (wordAtD B C va kind).2 := by
 have := tr_ok hB C va kind
 unfold wordAtD wordAtP
 exact zq207
theorem wordAt_len (B : BusS) (C : CsrS) (va kind : Nat) : (wordAtD B C va kind).2.ram.length = B.ram.length := by
 have := tr_len B C va kind
 unfold wordAtD wordAtP
 exact zq207
theorem wordAt_lt (B : BusS) (C : CsrS) (va kind : Nat) (h : va < 4294967296) : (wordAtD B C va kind).1.1 < 17184063488 /\ (wordAtD B C va kind).1.2 <= 2 := by
 have h2 := tr_lt B C va kind h
 unfold wordAtD wordAtP
 repeat' split
 . exact h2
 . exact zq206
 . exact h2
structure Spn where
 pa1 : Nat
 n1 : Nat
 pa2 : Nat
 n2 : Nat
 fault : Nat
 wh : Nat
def roomD (va n : Nat) : Nat := if 4096 - va % 4096 < n then 4096 - va % 4096 else n
def reach2 (pa k n next : Nat) (u : (Nat × Nat) × BusS) : Spn × BusS :=
 if u.1.2 = 0 then (if takesD (u.1.1 : Nat) ((n - k : Nat) : Int) u.2.ram.length = true then (⟨pa, k, u.1.1, n - k, 0, 0⟩, u.2) else (⟨0, 0, 0, 0, 2, next⟩, u.2)) else (⟨0, 0, 0, 0, u.1.2, next⟩, u.2)
def reach1 (C : CsrS) (va n kind k : Nat) (t : (Nat × Nat) × BusS) : Spn × BusS :=
 if t.1.2 = 0 then (if takesD (t.1.1 : Nat) (k : Nat) t.2.ram.length = true then
  (if k < n then reach2 t.1.1 k n ((va + k) % 4294967296) (trD t.2 C ((va + k) % 4294967296) kind) else (⟨t.1.1, k, 0, 0, 0, 0⟩, t.2))
  else (⟨0, 0, 0, 0, 2, va⟩, t.2)) else (⟨0, 0, 0, 0, t.1.2, va⟩, t.2)
def reachD (B : BusS) (C : CsrS) (va n kind : Nat) : Spn × BusS := reach1 C va n kind (roomD va n) (trD B C va kind)
theorem reach_ok {B : BusS} (hB : BusOk B) (C : CsrS) (va n kind : Nat) : BusOk (reachD B C va n kind).2 := by
 have h1 := tr_ok hB C va kind
 have h2 := tr_ok h1 C ((va + roomD va n) % 4294967296) kind
 unfold reachD reach1 reach2
 repeat' split
 all_goals first | exact h1 | exact h2
theorem reach_len (B : BusS) (C : CsrS) (va n kind : Nat) : (reachD B C va n kind).2.ram.length = B.ram.length := by
 have h1 := tr_len B C va kind
 have h2 := tr_len (trD B C va kind).2 C ((va + roomD va n) % 4294967296) kind
 unfold reachD reach1 reach2
 repeat' split
 all_goals first | exact h1 | exact h2.trans h1
structure SpnOk (s : Spn) (n : Nat) : Prop where
 pa1 : s.pa1 < 17184063488
 pa2 : s.pa2 < 17184063488
 fault : s.fault <= 2
 wh : s.wh < 4294967296
 n1 : s.fault = 0 -> 1 <= s.n1
 sum : s.fault = 0 -> s.n1 + s.n2 = n
 le : s.n1 + s.n2 <= n
theorem reach_sp (B : BusS) (C : CsrS) (va n kind : Nat) (hv : va < 4294967296) (hn : 1 <= n) : SpnOk (reachD B C va n kind).1 n := by
 have h1 := tr_lt B C va kind hv
 have hr : 1 <= roomD va n /\ roomD va n <= n := zq6
 have hx : (va + roomD va n) % 4294967296 < 4294967296 := by omega
 have h2 := tr_lt (trD B C va kind).2 C ((va + roomD va n) % 4294967296) kind hx
 unfold reachD reach1 reach2
 obtain ⟨k, hk⟩ := zn1 (roomD va n)
 rw [<- hk] at hr hx h2 |-
 repeat' split
 all_goals exact ⟨by dsimp only; omega, by dsimp only; omega, by dsimp only; omega, by dsimp only; omega, by dsimp only; omega, by dsimp only; omega, by dsimp only; omega⟩
def loadD (B : BusS) (s : Spn) : Nat × BusS :=
 if 0 < s.n2 then ((readD B s.pa1 s.n1).1 + (readD (readD B s.pa1 s.n1).2 s.pa2 s.n2).1 * 256 ^ s.n1, (readD (readD B s.pa1 s.n1).2 s.pa2 s.n2).2) else readD B s.pa1 s.n1
theorem load_ok {B : BusS} (hB : BusOk B) (s : Spn) : BusOk (loadD B s).2 := by
 unfold loadD; split
 . exact readD_ok (readD_ok hB _ _) _ _
 . exact readD_ok hB _ _
theorem load_len (B : BusS) (s : Spn) : (loadD B s).2.ram.length = B.ram.length := by
 unfold loadD; split
 . exact (readD_len _ _ _).trans (readD_len _ _ _)
 . exact readD_len _ _ _
theorem load_lt {B : BusS} (hB : BusOk B) (s : Spn) (h : 1 <= s.n1) : (loadD B s).1 < 256 ^ (s.n1 + s.n2) := by
 have h1 := readD_lt hB s.pa1 s.n1 h
 unfold loadD; split
 . rename_i h2
   have h3 := readD_lt (readD_ok hB s.pa1 s.n1) s.pa2 s.n2 h2
   dsimp only
   rw [Nat.pow_add]
   obtain ⟨a, ha⟩ := zn1 ((readD B s.pa1 s.n1).1)
   obtain ⟨b, hb⟩ := zn1 ((readD (readD B s.pa1 s.n1).2 s.pa2 s.n2).1)
   rw [<- ha] at h1 |-
   rw [<- hb] at h3 |-
   obtain ⟨x, hx⟩ := zn1 (256 ^ s.n1)
   obtain ⟨y, hy⟩ := zn1 (256 ^ s.n2)
   rw [<- hx] at h1 |-
   rw [<- hy] at h3 |-
   calc a + b * x < x + b * x := by omega
    _ = (b + 1) * x := by rw [Nat.add_mul]; omega
    _ <= y * x := Nat.mul_le_mul_right _ h3
    _ = x * y := Nat.mul_comm _ _
 . rename_i h2
   have h0 : s.n2 = 0 := by omega
   rw [h0]; exact h1
def storeD (B : BusS) (s : Spn) (v : Nat) : BusS := if 0 < s.n2 then writeD (writeD B s.pa1 s.n1 v) s.pa2 s.n2 (v / 256 ^ s.n1) else writeD B s.pa1 s.n1 v
theorem store_ok {B : BusS} (hB : BusOk B) (s : Spn) (v : Nat) (hv : v < 4294967296) : BusOk (storeD B s v) := by
 have h2 : v / 256 ^ s.n1 < 4294967296 := Nat.lt_of_le_of_lt (Nat.div_le_self _ _) hv
 unfold storeD; split
 . exact writeD_ok (writeD_ok hB _ _ _ hv) _ _ _ h2
 . exact writeD_ok hB _ _ _ hv
theorem store_len (B : BusS) (s : Spn) (v : Nat) : (storeD B s v).ram.length = B.ram.length := by
 unfold storeD; split
 . exact (writeD_len _ _ _ _).trans (writeD_len _ _ _ _)
 . exact writeD_len _ _ _ _
theorem bv_nat (a : Nat) (h : a < 9223372036854775808) : (BitVec.ofInt 64 (a : Int)).toNat = a := by
 rw [BitVec.toNat_ofInt]
 have e : ((2 ^ 64 : Nat) : Int) = 18446744073709551616 := by decide
 rw [e, Int.emod_eq_of_lt (by omega) (by omega)]; omega
theorem wrap_nat63 (a : Nat) (h : a < 9223372036854775808) : IntKind.i64.wrap (a : Int) = a := by rw [IntKind.wrap_i64]; omega
theorem nat_or_lt (a b n : Nat) (ha : a < 2 ^ n) (hb : b < 2 ^ n) : (a ||| b) < 2 ^ n := Nat.or_lt_two_pow ha hb
theorem b_and (a b : Nat) (ha : a < 9223372036854775808) (hb : b < 9223372036854775808) : bits .and .i64 (a : Int) (b : Int) = ((a &&& b : Nat) : Int) := by
 have hx : bits .and .i64 (a : Int) (b : Int) = IntKind.i64.wrap (((BitVec.ofInt 64 (a : Int) &&& BitVec.ofInt 64 (b : Int)).toNat : Nat) : Int) := rfl
 rw [hx, BitVec.toNat_and, bv_nat a ha, bv_nat b hb]
 exact wrap_nat63 _ (Nat.lt_of_le_of_lt Nat.and_le_left ha)
theorem b_or (a b : Nat) (ha : a < 9223372036854775808) (hb : b < 9223372036854775808) : bits .or .i64 (a : Int) (b : Int) = ((a ||| b : Nat) : Int) := by
 have hx : bits .or .i64 (a : Int) (b : Int) = IntKind.i64.wrap (((BitVec.ofInt 64 (a : Int) ||| BitVec.ofInt 64 (b : Int)).toNat : Nat) : Int) := rfl
 rw [hx, BitVec.toNat_or, bv_nat a ha, bv_nat b hb]
 exact wrap_nat63 _ (nat_or_lt a b 63 ha hb)
theorem b_xor (a b : Nat) (ha : a < 9223372036854775808) (hb : b < 9223372036854775808) : bits .xor .i64 (a : Int) (b : Int) = ((a ^^^ b : Nat) : Int) := by
 have hx : bits .xor .i64 (a : Int) (b : Int) = IntKind.i64.wrap (((BitVec.ofInt 64 (a : Int) ^^^ BitVec.ofInt 64 (b : Int)).toNat : Nat) : Int) := rfl
 rw [hx, BitVec.toNat_xor, bv_nat a ha, bv_nat b hb]
 exact wrap_nat63 _ (Nat.xor_lt_two_pow (n := 63) ha hb)
theorem wout_eq (a m n : Nat) (ha : a < 2 ^ n) : (a &&& (2 ^ n - (m % 2 ^ n + 1))) = wout a m := by
 have h1 := or_and _ (a &&& (2 ^ n - (m % 2 ^ n + 1))) (a &&& m) (Nat.le_refl _)
 have hm : m % 2 ^ n < 2 ^ n := Nat.mod_lt _ (Nat.two_pow_pos n)
 have e1 : ((a &&& (2 ^ n - (m % 2 ^ n + 1))) ||| (a &&& m)) = a := by
  refine Nat.eq_of_testBit_eq fun i => ?_
  rw [Nat.testBit_or, Nat.testBit_and, Nat.testBit_and, Nat.testBit_two_pow_sub_succ hm, Nat.testBit_mod_two_pow]
  by_cases hi : i < n
  . cases a.testBit i <;> cases m.testBit i <;> simp [hi]
  . have : a.testBit i = false := Nat.testBit_lt_two_pow (Nat.lt_of_lt_of_le ha (Nat.pow_le_pow_right (by omega) (by omega)))
    simp [this]
 have e2 : ((a &&& (2 ^ n - (m % 2 ^ n + 1))) &&& (a &&& m)) = 0 := by
  refine Nat.eq_of_testBit_eq fun i => ?_
  rw [Nat.testBit_and, Nat.testBit_and, Nat.testBit_and, Nat.testBit_two_pow_sub_succ hm, Nat.testBit_mod_two_pow]
  by_cases hi : i < n
  . cases a.testBit i <;> cases m.testBit i <;> simp [hi]
  . simp [hi]
 rw [e1, e2] at h1
 unfold wout
 omega
theorem b_andn (a b : Nat) (ha : a < 9223372036854775808) (hb : b < 9223372036854775808) : bits .andNot .i64 (a : Int) (b : Int) = ((wout a b : Nat) : Int) := by
 have hx : bits .andNot .i64 (a : Int) (b : Int) = IntKind.i64.wrap (((BitVec.ofInt 64 (a : Int) &&& ~~~ BitVec.ofInt 64 (b : Int)).toNat : Nat) : Int) := rfl
 have e : (~~~ BitVec.ofInt 64 (b : Int)).toNat = 2 ^ 64 - (b % 2 ^ 64 + 1) := by
  rw [BitVec.toNat_not, bv_nat b hb, Nat.mod_eq_of_lt (Nat.lt_of_lt_of_le hb (by decide))]; omega
 rw [hx, BitVec.toNat_and, bv_nat a ha, e, wout_eq a b 64 (Nat.lt_of_lt_of_le ha (by decide))]
 exact wrap_nat63 _ (by unfold wout; omega)
theorem wout_le (a b : Nat) : wout a b <= a := by unfold wout; omega
namespace Pic
def okBit (x : UInt8) (b : Nat) : Bool := !(x == 48 && b == 1) && !(x == 49 && b == 0)
def fits : List UInt8 -> Nat -> Bool
 | [], _ => true
 | x :: q, w => okBit x (w % 2) && fits q (w / 2)
def val (m : UInt8 -> Bool) : List UInt8 -> Nat -> Nat
 | [], _ => 0
 | x :: q, w => bif m x then w % 2 + 2 * val m q (w / 2) else val m q (w / 2)
def cnt (m : UInt8 -> Bool) : List UInt8 -> Nat
 | [] => 0
 | x :: q => bif m x then 1 + cnt m q else cnt m q
def isLet (x : UInt8) : Bool := decide (97 <= x.toNat) && decide (x.toNat <= 122)
def sum : List UInt8 -> Nat -> Nat
 | [], _ => 0
 | x :: q, w => (bif isLet x then (w % 2) * 2 ^ (x.toNat - 97) else 0) + sum q (w / 2)
def high : List UInt8 -> Nat
 | [] => 0
 | x :: q => bif isLet x then max (2 ^ (x.toNat - 97)) (high q) else high q
theorem val_lt (m : UInt8 -> Bool) : ∀ q w, val m q w < 2 ^ cnt m q
 | [], _ => by simp [val, cnt]
 | x :: q, w => by
  have h := val_lt m q (w / 2)
  cases hm : m x <;> simp [val, cnt, hm]
  . exact h
  . rw [Nat.pow_add]; omega
def most : List UInt8 -> Nat
 | [] => 0
 | x :: q => (bif isLet x then 2 ^ (x.toNat - 97) else 0) + most q
theorem sum_le_most : ∀ q w, sum q w <= most q
 | [], _ => by simp [sum, most]
 | x :: q, w => by
  have h := sum_le_most q (w / 2)
  have hb : w % 2 <= 1 := by omega
  cases hl : isLet x <;> simp only [sum, most, hl, cond_false, cond_true]
  . omega
  . have : w % 2 * 2 ^ (x.toNat - 97) <= 1 * 2 ^ (x.toNat - 97) := Nat.mul_le_mul_right _ hb
    omega
def imm (q : List UInt8) (neg : Bool) (w : Nat) : Int :=
 if neg = true /\ high q <= sum q w then (sum q w : Int) - 2 * (high q : Int) else (sum q w : Int)
def draw : List UInt8 -> Int -> Int -> Int -> Int -> Nat
 | [], _, _, _, _ => 0
 | x :: q, rd, rs1, rs2, im =>
  if x = 49 then 1 + 2 * draw q rd rs1 rs2 im
  else if x = 68 \/ x = 66 then (rd % 2).toNat + 2 * draw q (rd / 2) rs1 rs2 im
  else if x = 83 then (rs1 % 2).toNat + 2 * draw q rd (rs1 / 2) rs2 im
  else if x = 84 then (rs2 % 2).toNat + 2 * draw q rd rs1 (rs2 / 2) im
  else if isLet x = true then (im / 2 ^ (x.toNat - 97) % 2).toNat + 2 * draw q rd rs1 rs2 im
  else 2 * draw q rd rs1 rs2 im
theorem draw_lt : ∀ q rd rs1 rs2 im, draw q rd rs1 rs2 im < 2 ^ q.length
 | [], _, _, _, _ => by simp [draw]
 | x :: q, rd, rs1, rs2, im => by
  have h1 := draw_lt q rd rs1 rs2 im
  have h2 := draw_lt q (rd / 2) rs1 rs2 im
  have h3 := draw_lt q rd (rs1 / 2) rs2 im
  have h4 := draw_lt q rd rs1 (rs2 / 2) im
  simp only [draw, List.length_cons, Nat.pow_succ]
  repeat' split
  all_goals omega
theorem imm_of (q : List UInt8) (neg : Bool) (w : Nat) : imm q neg w = if neg = true /\ high q <= sum q w then (sum q w : Int) - 2 * (high q : Int) else (sum q w : Int) := rfl
def rv (l : List UInt8) (j : Nat) : List UInt8 := (l.take j).reverse
theorem rv_zero (l : List UInt8) : rv l 0 = [] := rfl
theorem rv_succ (l : List UInt8) (i : Nat) (h : i < l.length) : rv l (i + 1) = l[i] :: rv l i := by
 unfold rv; rw [List.take_succ_eq_append_getElem h, List.reverse_append]; rfl
theorem rv_length (l : List UInt8) (j : Nat) (h : j <= l.length) : (rv l j).length = j := by unfold rv; simp; omega
theorem cnt_le (m : UInt8 -> Bool) : ∀ q, cnt m q <= q.length
 | [] => by simp [cnt]
 | x :: q => by
  have := cnt_le m q
  cases hm : m x <;> simp [cnt, hm] <;> omega
end Pic
theorem and_mask (x : Int) (n : Nat) (hn : n <= 62) : bits .and .i64 x ((2 ^ n - 1 : Nat) : Int) = x % 2 ^ n := by
 have e1 : ((2 : Int) ^ n) = ((2 ^ n : Nat) : Int) := by simp
 have hp : 2 ^ n <= 2 ^ 62 := Nat.pow_le_pow_right (by decide) hn
 have h62 : (2 : Nat) ^ 62 = 4611686018427387904 := by decide
 have h1 : 1 <= 2 ^ n := Nat.one_le_two_pow
 have ha : (BitVec.ofInt 64 x &&& BitVec.ofInt 64 ((2 ^ n - 1 : Nat) : Int)).toNat = (x % 2 ^ n).toNat := by
  rw [BitVec.toNat_and, BitVec.toNat_ofInt, BitVec.toNat_ofInt]
  have e2 : (((2 ^ n - 1 : Nat) : Int) % ((2 ^ 64 : Nat) : Int)).toNat = 2 ^ n - 1 := by
   rw [Int.emod_eq_of_lt (by omega) (by have : (2 : Nat) ^ 64 = 18446744073709551616 := (by decide); omega)]; omega
  rw [e2, Nat.and_two_pow_sub_one_eq_mod, e1]
  have hd : (2 ^ n : Nat) ∣ 2 ^ 64 := Nat.pow_dvd_pow 2 (by omega)
  have e3 : ((x % ((2 ^ 64 : Nat) : Int)).toNat : Int) = x % ((2 ^ 64 : Nat) : Int) := Int.toNat_of_nonneg (Int.emod_nonneg _ (by decide))
  have e4 : (((x % ((2 ^ 64 : Nat) : Int)).toNat % 2 ^ n : Nat) : Int) = x % ((2 ^ n : Nat) : Int) := by
   rw [Int.natCast_emod, e3]
   exact Int.emod_emod_of_dvd x (Int.natCast_dvd_natCast.2 hd)
  omega
 have hb : bits .and .i64 x ((2 ^ n - 1 : Nat) : Int) = IntKind.i64.wrap (((BitVec.ofInt 64 x &&& BitVec.ofInt 64 ((2 ^ n - 1 : Nat) : Int)).toNat : Nat) : Int) := rfl
 rw [hb, ha, IntKind.wrap_i64]
 have h2 : x % 2 ^ n < 2 ^ n := Int.emod_lt_of_pos _ (by rw [e1]; omega)
 have h3 : 0 <= x % 2 ^ n := Int.emod_nonneg _ (by rw [e1]; omega)
 rw [e1] at h2 h3 |-
 omega
theorem and_one (x : Int) : bits .and .i64 x 1 = x % 2 := and_mask x 1 (by decide)
theorem and_three (x : Int) : bits .and .i64 x 3 = x % 4 := and_mask x 2 (by decide)
theorem i_isLet (c : UInt8) (w : World) :
 CS 211 #[.int .u8 (c.toNat : Int)] (.bool (Pic.isLet c)) w := by
 by_cases h1 : (97 : Int) <= c.toNat
 . by_cases h2 : (c.toNat : Int) <= 122
   . go_enter func211, ntmps211
     go_wp2
     go_ret
     exact ⟨by rw [show Pic.isLet c = true by simp [Pic.isLet]; omega]; rfl, rfl⟩
   . exact zq208
 . exact zq208
theorem u8_eq {c : UInt8} {n : Nat} (hn : n < 256) : (c.toNat : Int) = n ↔ c = UInt8.ofNat n := zq197
theorem okBit_of {c : UInt8} {x : Nat} {q : List UInt8} {t : Bool} (h : Hid (Pic.fits (c :: q) x = t)) : t = (Pic.okBit c (x % 2) && Pic.fits q (x / 2)) := h.out.symm
theorem okBit_0 {c : UInt8} {x : Nat} (h : (c.toNat : Int) = 48) : Pic.okBit c (x % 2) = !(x % 2 == 1) := by
 have : c = 48 := (u8_eq (n := 48) (by decide)).1 h
 subst this; simp [Pic.okBit]
theorem okBit_1 {c : UInt8} {x : Nat} (h : (c.toNat : Int) = 49) : Pic.okBit c (x % 2) = !(x % 2 == 0) := by
 have : c = 49 := (u8_eq (n := 49) (by decide)).1 h
 subst this; simp [Pic.okBit]
theorem okBit_x {c : UInt8} {x : Nat} (h : ¬ (c.toNat : Int) = 48) (h1 : ¬ (c.toNat : Int) = 49) : Pic.okBit c (x % 2) = true := by
 have a : c ≠ 48 := fun e => h ((u8_eq (n := 48) (by decide)).2 e)
 have b : c ≠ 49 := fun e => h1 ((u8_eq (n := 49) (by decide)).2 e)
 simp [Pic.okBit, a, b]
theorem rv_at (s : ByteArray) (i : Nat) (h : i < s.size) : Pic.rv s.data.toList (i + 1) = s[i] :: Pic.rv s.data.toList i := by
 rw [Pic.rv_succ _ _ (by simpa using h)]; rfl
theorem i_fixed (s : ByteArray) (hs : s.size <= 32) (W : Nat) (hW : W < 4294967296) (w : World) :
 CS 208 #[.string s, .int .i64 W] (.bool (Pic.fits (Pic.rv s.data.toList s.size) W)) w := by
 go_enter func208, ntmps208
 go_wp2
 go_loop [1, 5] (fun y k => ∃ j x : Nat, j <= s.size /\ x < 4294967296 /\ k = .int .i64 ((j : Int) - 1) /\ y = .int .i64 x /\ Hid (Pic.fits (Pic.rv s.data.toList j) x = Pic.fits (Pic.rv s.data.toList s.size) W)) (fun _ k => (intOf k + 1).toNat)
 case atStart => exact ⟨s.size, W, Nat.le_refl _, hW, rfl, rfl, rfl⟩
 case round =>
  obtain ⟨j, x, hj, hx, rfl, rfl, hh⟩ := hrel
  cases j with
  | zero =>
   go_wp2
   go_ret
   exact ⟨by rw [<- hh.out]; rfl, rfl⟩
  | succ i =>
   have e : ((i + 1 : Nat) : Int) - 1 = (i : Int) := by omega
   rw [e]
   have hi : i < s.size := by omega
   rw [rv_at s i hi] at hh
   have h1 := and_one (x : Int)
   go_wp2
   . go_ret
     have a : (s[i].toNat : Int) = 48 := by assumption
     have b : (x : Int) % 2 = 1 := by assumption
     exact ⟨by rw [okBit_of hh, okBit_0 a, show (x % 2 == 1) = true by simp; omega]; rfl, rfl⟩
   . have a : (s[i].toNat : Int) = 48 := by assumption
     have b : ¬ (x : Int) % 2 = 1 := by assumption
     go_round
     case rel => exact ⟨i, x / 2, by omega, by omega, by go_num, by go_num, by rw [okBit_of hh, okBit_0 a, show (x % 2 == 1) = false by simp; omega]; rfl⟩
     case measure => simp [intOf]
   . go_ret
     have a : (s[i].toNat : Int) = 49 := by assumption
     have b : ((x : Int) % 2 == 0) = true := by assumption
     rw [beq_iff_eq] at b
     exact ⟨by rw [okBit_of hh, okBit_1 a, show (x % 2 == 0) = true by simp; omega]; rfl, rfl⟩
   . have a : (s[i].toNat : Int) = 49 := by assumption
     have b : ((x : Int) % 2 == 0) = false := by assumption
     rw [beq_eq_false_iff_ne] at b
     go_round
     case rel => exact ⟨i, x / 2, by omega, by omega, by go_num, by go_num, by rw [okBit_of hh, okBit_1 a, show (x % 2 == 0) = false by simp; omega]; rfl⟩
     case measure => simp [intOf]
   . have a : ¬ (s[i].toNat : Int) = 48 := by assumption
     have b : ¬ (s[i].toNat : Int) = 49 := by assumption
     go_round
     case rel => exact ⟨i, x / 2, by omega, by omega, by go_num, by go_num, by rw [okBit_of hh, okBit_x a b]; rfl⟩
     case measure => simp [intOf]
theorem val_hit {m : UInt8 -> Bool} {c : UInt8} {q : List UInt8} {x n t V C : Nat} (hm : m c = true) (h : Hid (n + t * Pic.val m (c :: q) x = V /\ t * 2 ^ Pic.cnt m (c :: q) = C)) :
 Hid (n + x % 2 * t + (t * 2) * Pic.val m q (x / 2) = V /\ (t * 2) * 2 ^ Pic.cnt m q = C) := by
 obtain ⟨h1, h2⟩ := h.out
 simp only [Pic.val, Pic.cnt, hm, cond_true, Nat.pow_add] at h1 h2
 refine ⟨?_, by rw [<- h2, Nat.mul_assoc]⟩
 rw [<- h1, Nat.mul_add, Nat.mul_assoc t 2, Nat.mul_comm (x % 2) t]; omega
theorem val_miss {m : UInt8 -> Bool} {c : UInt8} {q : List UInt8} {x n t V C : Nat} (hm : m c = false) (h : Hid (n + t * Pic.val m (c :: q) x = V /\ t * 2 ^ Pic.cnt m (c :: q) = C)) :
 Hid (n + t * Pic.val m q (x / 2) = V /\ t * 2 ^ Pic.cnt m q = C) := by
 obtain ⟨h1, h2⟩ := h.out
 simp only [Pic.val, Pic.cnt, hm, cond_false] at h1 h2
 exact ⟨h1, h2⟩
theorem val_bd {m : UInt8 -> Bool} {l : List UInt8} {q : List UInt8} {x n t V W : Nat} (hl : l.length <= 32) (hV : V = Pic.val m l W) (h : Hid (n + t * Pic.val m q x = V /\ t * 2 ^ Pic.cnt m q = 2 ^ Pic.cnt m l)) : n < 4294967296 /\ 1 <= t /\ t <= 4294967296 := by
 obtain ⟨h1, h2⟩ := h.out
 have a := Pic.val_lt m l W
 have b := Pic.cnt_le m l
 have c : 2 ^ Pic.cnt m l <= 2 ^ 32 := zq4
 have d : (2 : Nat) ^ 32 = 4294967296 := by decide
 have e : 1 <= 2 ^ Pic.cnt m q := Nat.one_le_two_pow
 have f : t * 1 <= t * 2 ^ Pic.cnt m q := Nat.mul_le_mul_left _ e
 have g : 1 <= 2 ^ Pic.cnt m l := Nat.one_le_two_pow
 refine ⟨by omega, ?_, by omega⟩
 rcases Nat.eq_zero_or_pos t with h | h
 . subst h; omega
 . exact h
def regOf (s : ByteArray) (c : UInt8) (W : Nat) : Nat :=
 let l := Pic.rv s.data.toList s.size
 if Pic.cnt (· == c) l = 3 then Pic.val (· == c) l W + 8 else Pic.val (· == c) l W
theorem pow_3 {n : Nat} : 2 ^ n = 8 ↔ n = 3 := by
 constructor
 . intro h
   have : (2 : Nat) ^ n = 2 ^ 3 := h
   exact (Nat.pow_right_inj (by decide)).1 this
 . intro h; subst h; rfl
theorem reg_8 {s : ByteArray} {c : UInt8} {W V nn tt : Nat} (HV : Hid (Pic.val (· == c) (Pic.rv s.data.toList s.size) W = V)) (Q1 : Hid (nn = V))
 (Q2 : Hid (tt = 2 ^ Pic.cnt (· == c) (Pic.rv s.data.toList s.size))) (H3 : Hid (tt = 8)) : regOf s c W = nn + 8 := by
 unfold regOf
 rw [if_pos (pow_3.1 (by rw [<- Q2.out]; exact H3.out)), HV.out, Q1.out]
theorem reg_n {s : ByteArray} {c : UInt8} {W V nn tt : Nat} (HV : Hid (Pic.val (· == c) (Pic.rv s.data.toList s.size) W = V)) (Q1 : Hid (nn = V))
 (Q2 : Hid (tt = 2 ^ Pic.cnt (· == c) (Pic.rv s.data.toList s.size))) (H3 : ¬ tt = 8) : regOf s c W = nn := by
 unfold regOf
 rw [if_neg (fun h => H3 (by rw [Q2.out]; exact pow_3.2 h)), HV.out, Q1.out]
theorem i_register (s : ByteArray) (hs : s.size <= 32) (c : UInt8) (W : Nat) (hW : W < 4294967296) (w : World) :
 CS 296 #[.string s, .int .u8 (c.toNat : Int), .int .i64 W] (.int .i64 (regOf s c W)) w := by
 have hlen : (Pic.rv s.data.toList s.size).length <= 32 := by rw [Pic.rv_length _ _ (by simp)]; exact hs
 generalize hV : Pic.val (· == c) (Pic.rv s.data.toList s.size) W = V
 have HV : Hid (Pic.val (· == c) (Pic.rv s.data.toList s.size) W = V) := hV
 clear hV
 go_enter func296, ntmps296
 go_wp2
 go_loop [2, 7, 8, 9] (fun y n t k => ∃ j x nn tt : Nat, j <= s.size /\ x < 4294967296 /\ k = .int .i64 ((j : Int) - 1) /\ y = .int .i64 x /\ n = .int .i64 nn /\ t = .int .i64 tt /\
  Hid (nn + tt * Pic.val (· == c) (Pic.rv s.data.toList j) x = V /\ tt * 2 ^ Pic.cnt (· == c) (Pic.rv s.data.toList j) = 2 ^ Pic.cnt (· == c) (Pic.rv s.data.toList s.size))) (fun _ _ _ k => (intOf k + 1).toNat)
 case atStart => exact ⟨s.size, W, 0, 1, Nat.le_refl _, hW, rfl, rfl, rfl, rfl, ⟨by rw [HV.out]; omega, by omega⟩⟩
 case round =>
  obtain ⟨j, x, nn, tt, hj, hx, rfl, rfl, rfl, rfl, hh⟩ := hrel
  obtain ⟨b1, b2, b3⟩ := val_bd hlen HV.out.symm hh
  cases j with
  | zero =>
   obtain ⟨q1, q2⟩ := hh.out
   simp only [Pic.rv_zero, Pic.val, Pic.cnt, Nat.mul_zero, Nat.add_zero, Nat.pow_zero, Nat.mul_one] at q1 q2
   have Q2 : Hid (tt = 2 ^ Pic.cnt (· == c) (Pic.rv s.data.toList s.size)) := q2
   have Q1 : Hid (nn = V) := q1
   clear q1 q2 hh
   by_cases h3 : tt = 8
   . have h4 : ((tt : Int) == 8) = true := by rw [beq_iff_eq]; omega
     have H3 : Hid (tt = 8) := h3
     clear h3
     go_wp2
     go_ret
     exact ⟨congrArg (fun z => Ending.returned (Value.int .i64 z)) (by rw [reg_8 HV Q1 Q2 H3]; omega), rfl⟩
   . have h4 : ((tt : Int) == 8) = false := by rw [beq_eq_false_iff_ne]; omega
     go_wp2
     go_ret
     exact ⟨congrArg (fun z => Ending.returned (Value.int .i64 z)) (by rw [reg_n HV Q1 Q2 h3]), rfl⟩
  | succ i =>
   have e : ((i + 1 : Nat) : Int) - 1 = (i : Int) := by omega
   rw [e]
   have hi : i < s.size := by omega
   rw [rv_at s i hi] at hh
   by_cases hc : s[i] = c
   . have hc' : (s[i].toNat : Int) == c.toNat := by rw [hc]; simp
     have hm : (fun z => z == c) s[i] = true := by simp [hc]
     have H2 := val_hit (m := (· == c)) (c := s[i]) hm hh
     have HC : Hid (s[i] = c) := hc
     clear hc hh hm
     have bb := (val_bd hlen HV.out.symm H2).1
     rcases Nat.mod_two_eq_zero_or_one x with hp | hp
     . have h1 : bits BinOp.and IntKind.i64 (x : Int) 1 = 0 := by rw [and_one]; omega
       rw [hp] at H2 bb
       have HP : Hid (x % 2 = 0) := hp
       clear hp
       go_wp2
       go_round
       case rel => exact ⟨i, x / 2, nn, tt * 2, by omega, by omega, by go_num, by go_num, by go_num, by go_num, by simpa using H2⟩
       case measure => simp [intOf]
     . have h1 : bits BinOp.and IntKind.i64 (x : Int) 1 = 1 := by rw [and_one]; omega
       rw [hp] at H2 bb
       have HP : Hid (x % 2 = 1) := hp
       clear hp
       go_wp2
       go_round
       case rel => exact ⟨i, x / 2, nn + tt, tt * 2, by omega, by omega, by go_num, by go_num, by go_num, by go_num, by simpa using H2⟩
       case measure => simp [intOf]
   . have hc' : ((s[i].toNat : Int) == c.toNat) = false := by
      rw [beq_eq_false_iff_ne]; intro h; exact hc (UInt8.toNat_inj.1 (by omega))
     have hm : (fun z => z == c) s[i] = false := by simp [hc]
     have H2 := val_miss (m := (· == c)) (c := s[i]) hm hh
     clear hc hh hm
     go_wp2
     exact zq209
theorem ret_intE {k : IntKind} {a b : Int} (h : a = b) : Ending.returned (.int k a) = .returned (.int k b) := by rw [h]
theorem ret_boolE {a b : Bool} (h : a = b) : Ending.returned (.bool a) = .returned (.bool b) := by rw [h]
theorem x_word (v : Int) (w : World) :
 CS 135 #[.int .i64 v] (.int .i64 (wordN v)) w := by
 have h : bits .and .i64 v 4294967295 = (wordN v : Int) := by rw [wordN_cast]; exact and_mask v 32 (by decide)
 go_enter func135, ntmps135
 exact zq210
def xextD (v n : Int) : Int := if n = 1 then (if 128 <= v then v - 256 else v) else if n = 2 then (if 32768 <= v then v - 65536 else v) else (if 2147483648 <= v then v - 4294967296 else v)
theorem x_extended (v n : Int) (h0 : 0 <= v) (hv : v < 4294967296) (w : World) :
 CS 270 #[.int .i64 v, .int .i64 n] (.int .i64 (xextD v n)) w := by
 obtain ⟨T, hT⟩ := zn1 (xextD v n)
 rw [<- hT]
 unfold xextD at hT
 have HT := hide1 hT
 clear hT
 go_enter func270, ntmps270
 go_wp2_with fail
 all_goals (go_ret; refine ⟨ret_intE ?_, rfl⟩; rw [HT.out]; simp_all; try omega)
theorem x_signed (v : Nat) (hv : v < 4294967296) (w : World) :
 CS 263 #[.int .i64 v] (.int .i64 (sgn v)) w := by
 have e : sgn v = xextD v 4 := by unfold sgn xextD; simp
 rw [e]
 have E := hide1 (x_extended v 4 (by omega) (by omega) w)
 clear e
 go_enter func263, ntmps263
 go_wp2_with (go_at_call 270; refine E.out.mono ?_; rintro e w' ⟨rfl, rfl⟩)
 exact zq196
theorem x_oneIf (b : Bool) (w : World) :
 CS 255 #[.bool b] (.int .i64 (b.toNat : Int)) w := by
 cases b
 all_goals
  go_enter func255, ntmps255
  go_wp2_with fail
  go_ret
  exact ⟨rfl, rfl⟩
theorem x_choose (c : Bool) (a b : Int) (w : World) :
 CS 347 #[.bool c, .int .i64 a, .int .i64 b] (.int .i64 (bif c then a else b)) w := by
 cases c
 all_goals
  go_enter func347, ntmps347
  go_wp2_with fail
  go_ret
  exact ⟨rfl, rfl⟩
def xhbD (v n : Nat) : Bool := decide (v / 2 ^ n % 2 = 1)
theorem shr_nat (v n : Nat) (hv : v < 4294967296) : (v : Int) / 2 ^ min n 64 = ((v / 2 ^ n : Nat) : Int) := by
 by_cases h : n <= 64
 . rw [Nat.min_eq_left h]; simp
 . have e1 : v / 2 ^ n = 0 := by
    apply Nat.div_eq_of_lt
    exact Nat.lt_of_lt_of_le hv (Nat.le_trans (show 4294967296 <= 2 ^ 32 by decide) (Nat.pow_le_pow_right (by omega) (by omega)))
   have e2 : min n 64 = 64 := by omega
   rw [e1, e2]
   have : (2 : Int) ^ 64 = 18446744073709551616 := by decide
   rw [this]; omega
theorem x_hasBit (v n : Nat) (hv : v < 4294967296) (w : World) :
 CS 187 #[.int .i64 v, .int .i64 n] (.bool (xhbD v n)) w := by
 have h := shr_nat v n hv
 have h2 : bits .and .i64 ((v / 2 ^ n : Nat) : Int) 1 = ((v / 2 ^ n % 2 : Nat) : Int) := by rw [and_one]; simp
 obtain ⟨q, hq⟩ := zn1 (v / 2 ^ n)
 rw [<- hq] at h h2
 have hh : xhbD v n = decide (q % 2 = 1) := by rw [hq]; rfl
 rw [hh]
 clear hq hh
 have hp : (((q % 2 : Nat) : Int) != 0) = decide (q % 2 = 1) := by
  rcases Nat.mod_two_eq_zero_or_one q with e | e <;> rw [e] <;> rfl
 obtain ⟨r, hr⟩ := zn1 (q % 2)
 rw [<- hr] at h2 hp |-
 clear hr
 go_enter func187, ntmps187
 exact zq210
theorem x_setIf (v m : Nat) (so : Bool) (hv : v < 4294967296) (hm : m < 4294967296) (w : World) :
 CS 258 #[.int .i64 v, .int .i64 m, .bool so] (.int .i64 ((bif so then v ||| m else wout v m : Nat) : Int)) w := by
 have h1 := b_or v m (by omega) (by omega)
 have h2 := b_andn v m (by omega) (by omega)
 cases so
 all_goals
  go_enter func258, ntmps258
  go_wp2_with fail
  go_ret
  exact ⟨rfl, rfl⟩
def xmixD (a v m : Nat) : Nat := wout a m ||| (v &&& m)
theorem x_mixed (a v m : Nat) (ha : a < 4294967296) (hv : v < 4294967296) (hm : m < 4294967296) (w : World) :
 CS 259 #[.int .i64 a, .int .i64 v, .int .i64 m] (.int .i64 (xmixD a v m : Nat)) w := by
 have h1 := b_andn a m (by omega) (by omega)
 have h2 := b_and v m (by omega) (by omega)
 have h3 := b_or (wout a m) (v &&& m) (Nat.lt_of_le_of_lt (wout_le _ _) (by omega)) (Nat.lt_of_le_of_lt Nat.and_le_left (by omega))
 go_enter func259, ntmps259
 exact zq210
def xregD (op : Int) : Int := if op = 20 then 31 else if op = 21 then 32 else if op = 22 then 33 else if op = 23 then 36 else if op = 24 then 37 else if op = 25 then 30 else if op = 26 then 34 else if op = 27 then 35 else 28
theorem x_registerForm (op : Int) (w : World) :
 CS 265 #[.int .i64 op] (.int .i64 (xregD op)) w := by
 obtain ⟨T, hT⟩ := zn1 (xregD op)
 rw [<- hT]
 unfold xregD at hT
 have HT := hide1 hT
 clear hT
 go_enter func265, ntmps265
 exact zq211
theorem shr_min (v : Int) (n : Nat) (h : n < 32) : v / 2 ^ min n 64 = v / ((2 ^ n : Nat) : Int) := by rw [Nat.min_eq_left (by omega)]; simp
theorem and31 (b : Nat) : bits .and .i64 (b : Int) 31 = ((b % 32 : Nat) : Int) := by
 have := and_mask (b : Int) 5 (by decide)
 have e : ((2 : Int) ^ 5) = 32 := by decide
 have e2 : ((2 ^ 5 - 1 : Nat) : Int) = 31 := by decide
 exact zq212
theorem wordN_nat (n : Nat) : wordN (n : Int) = n % 4294967296 := by unfold wordN; omega
theorem wordN_of (n : Nat) (h : n < 4294967296) : wordN (n : Int) = n := by unfold wordN; omega
theorem wordN_wrap (z : Int) : wordN (wrap64 z) = wordN z := by unfold wordN wrap64; omega
def xquoD (a b : Int) : Int := if b = 0 then 4294967295 else wrap64 (a.tdiv b)
def xremD (a b : Int) : Int := if b = 0 then a else a.tmod b
theorem x_quotient (a b : Int) (w : World) :
 CS 337 #[.int .i64 a, .int .i64 b] (.int .i64 (xquoD a b)) w := by
 by_cases h : b = 0
 . subst h
   go_enter func337, ntmps337
   go_wp2_with fail
   go_ret
   exact ⟨ret_intE (by simp [xquoD]), rfl⟩
 . have q : (b == 0) = false := by simp [h]
   have HQ : Hid (xquoD a b = wrap64 (a.tdiv b)) := by show _ = _; simp [xquoD, h]
   go_enter func337, ntmps337
   exact zq213
theorem x_remainder (a b : Int) (w : World) :
 CS 338 #[.int .i64 a, .int .i64 b] (.int .i64 (xremD a b)) w := by
 by_cases h : b = 0
 . subst h
   go_enter func338, ntmps338
   go_wp2_with fail
   go_ret
   exact ⟨ret_intE (by simp [xremD]), rfl⟩
 . have q : (b == 0) = false := by simp [h]
   have HQ : Hid (xremD a b = a.tmod b) := by show _ = _; simp [xremD, h]
   go_enter func338, ntmps338
   exact zq213
theorem mul_bdX {x y X Y : Int} (h1 : -X <= x) (h2 : x <= X) (h3 : -Y <= y) (h4 : y <= Y) (hX : 0 <= X) (_hY : 0 <= Y) : -(X * Y) <= x * y /\ x * y <= X * Y := by
 have a1 : 0 <= (X - x) * (Y + y) := zq7
 have a2 : 0 <= (X + x) * (Y - y) := zq7
 have a3 : 0 <= (X - x) * (Y - y) := zq7
 have a4 : 0 <= (X + x) * (Y + y) := zq7
 have e1 : (X - x) * (Y + y) = X * Y + X * y - x * Y - x * y := by rw [Int.sub_mul, Int.mul_add, Int.mul_add]; omega
 have e2 : (X + x) * (Y - y) = X * Y - X * y + x * Y - x * y := by rw [Int.add_mul, Int.mul_sub, Int.mul_sub]; omega
 have e3 : (X - x) * (Y - y) = X * Y - X * y - x * Y + x * y := by rw [Int.sub_mul, Int.mul_sub, Int.mul_sub]; omega
 have e4 : (X + x) * (Y + y) = X * Y + X * y + x * Y + x * y := by rw [Int.add_mul, Int.mul_add, Int.mul_add]; omega
 omega
theorem and65535 (a : Int) : bits .and .i64 a 65535 = a % 65536 := and_mask a 16 (by decide)
theorem x_highWord (a b : Int) (h0 : -2147483648 <= a) (h1 : a < 4294967296) (h2 : -2147483648 <= b) (h3 : b < 4294967296) (w : World) :
 CS 336 #[.int .i64 a, .int .i64 b] (.int .i64 (wordN (a * b / 4294967296))) w := by
 have q1 := and65535 a
 obtain ⟨l, hl⟩ := zn1 (a % 65536)
 obtain ⟨h, hh⟩ := zn1 (a / 65536)
 have ea : a = h * 65536 + l := by omega
 have bl : 0 <= l /\ l <= 65535 := by omega
 have bh : -32768 <= h /\ h <= 65535 := by omega
 obtain ⟨p, hp⟩ := zn1 (h * b)
 obtain ⟨q, hq⟩ := zn1 (l * b)
 have bp := mul_bdX (x := h) (y := b) (X := 65536) (Y := 4294967296) (by omega) (by omega) (by omega) (by omega) (by omega) (by omega)
 have bq := mul_bdX (x := l) (y := b) (X := 65536) (Y := 4294967296) (by omega) (by omega) (by omega) (by omega) (by omega) (by omega)
 have eab : a * b = p * 65536 + q := by rw [ea, Int.add_mul, hp, hq, Int.mul_assoc, Int.mul_comm 65536 b, <- Int.mul_assoc]
 rw [<- hp] at bp
 rw [<- hq] at bq
 rw [<- hl] at q1
 have R : Hid (wordN (a * b / 4294967296) = wordN ((p + q / 65536) / 65536)) := by
  show _ = _
  rw [eab]; congr 1; omega
 have P1 : wrap64 (a / 65536 * b) = p := by rw [<- hh, <- hp]; unfold wrap64; omega
 have P2 : wrap64 (l * b) = q := by rw [<- hq]; unfold wrap64; omega
 have P3 : wrap64 (p + q / 65536) = p + q / 65536 := by unfold wrap64; omega
 have b1 := bp.1; have b2 := bp.2; have b3 := bq.1; have b4 := bq.2
 clear bp bq eab ea hh hp hq hl bl bh
 go_enter func336, ntmps336
 go_wp2_with (first | (go_at_call 135; refine (x_word _ _).mono ?_; rintro e w' ⟨rfl, rfl⟩))
 go_ret
 exact ⟨ret_intE (by rw [R.out] <;> rfl), rfl⟩
theorem u_add (a b : Nat) : (wordN ((a : Int) + b) : Int) = alu_add a b := by unfold alu_add wordN; omega
theorem u_sub (a b : Nat) : (wordN ((a : Int) - b) : Int) = alu_sub a b := rfl
theorem u_bool (p : Prop) [Decidable p] : (((decide p).toNat : Nat) : Int) = ((if p then 1 else 0 : Nat) : Int) := by by_cases h : p <;> simp [h]
theorem u_sll (a b r : Nat) (hr : r = b % 32) : (wordN ((a : Int) * 2 ^ r) : Int) = alu_sll a b := by
 have e : (a : Int) * 2 ^ r = ((a * 2 ^ r : Nat) : Int) := by simp
 rw [e, wordN_nat, hr]; rfl
theorem u_mul (a b : Nat) (ha : a < 4294967296) (hb : b < 4294967296) : (wordN (sgn a * sgn b) : Int) = alu_mul a b := by
 have e1 : ∃ i, sgn a = a - i * 4294967296 := by
  unfold sgn; split
  . exact ⟨1, by omega⟩
  . exact ⟨0, by omega⟩
 have e2 : ∃ i, sgn b = b - i * 4294967296 := by
  unfold sgn; split
  . exact ⟨1, by omega⟩
  . exact ⟨0, by omega⟩
 obtain ⟨i, h1⟩ := e1
 obtain ⟨j, h2⟩ := e2
 have e : sgn a * sgn b = ((a * b : Nat) : Int) + (-(a * j) - i * b + i * j * 4294967296) * 4294967296 := by
  rw [h1, h2, Int.natCast_mul]
  generalize (a : Int) = x
  generalize (b : Int) = y
  have : (x - i * 4294967296) * (y - j * 4294967296) = x * y - x * j * 4294967296 - i * y * 4294967296 + i * j * 4294967296 * 4294967296 := by
   rw [Int.sub_mul, Int.mul_sub, Int.mul_sub, <- Int.mul_assoc x j, Int.mul_right_comm i 4294967296 y, <- Int.mul_assoc (i * 4294967296) j, Int.mul_right_comm i 4294967296 j]; omega
  rw [this, Int.add_mul, Int.sub_mul, Int.neg_mul]; omega
 rw [e]
 unfold wordN alu_mul
 rw [Int.add_mul_emod_self_right]
 omega
theorem u_mulhu (a b : Nat) (ha : a < 4294967296) (hb : b < 4294967296) : (wordN ((a : Int) * b / 4294967296) : Int) = alu_mulhu a b := by
 have h : a * b <= 4294967295 * 4294967295 := Nat.mul_le_mul (by omega) (by omega)
 have e : (a : Int) * b = ((a * b : Nat) : Int) := by simp
 rw [e]; unfold wordN alu_mulhu
 generalize a * b = z at *
 omega
theorem u_div (a b : Nat) (_ha : a < 4294967296) (hb : b < 4294967296) : (wordN (xquoD (sgn a) (sgn b)) : Int) = alu_div a b := by
 unfold xquoD alu_div
 have := sgn_zero b hb
 by_cases h : b = 0
 . rw [if_pos (this.2 h), if_pos h]; rfl
 . rw [if_neg (fun e => h (this.1 e)), if_neg h, wordN_wrap]
theorem u_divu (a b : Nat) (ha : a < 4294967296) (_hb : b < 4294967296) : (wordN (xquoD a b) : Int) = alu_divu a b := by
 unfold xquoD alu_divu
 by_cases h : b = 0
 . subst h; rfl
 . rw [if_neg (by omega), if_neg h, wordN_wrap, ndiv, wordN_of]
   exact Nat.lt_of_le_of_lt (Nat.div_le_self _ _) ha
theorem u_rem (a b : Nat) (ha : a < 4294967296) (hb : b < 4294967296) : (wordN (xremD (sgn a) (sgn b)) : Int) = alu_rem a b := by
 unfold xremD alu_rem
 have := sgn_zero b hb
 by_cases h : b = 0
 . rw [if_pos (this.2 h), if_pos h]; unfold wordN sgn; split <;> omega
 . rw [if_neg (fun e => h (this.1 e)), if_neg h]
   congr 2
   have := Int.tmod_add_tdiv_mul (sgn a) (sgn b)
   omega
theorem u_remu (a b : Nat) (_ha : a < 4294967296) (_hb : b < 4294967296) : xremD a b = alu_remu a b := by
 unfold xremD alu_remu
 by_cases h : b = 0
 . subst h; rfl
 . rw [if_neg (by omega), if_neg h, Int.tmod_eq_emod_of_nonneg (by omega)]; simp
theorem x_reckon_add (a b : Nat) (ha : a < 4294967296) (hb : b < 4294967296) (w : World) :
 CS 264 #[.int .i64 28, .int .i64 a, .int .i64 b] (.int .i64 (alu_add a b)) w := zq214
theorem x_reckon_sub (a b : Nat) (ha : a < 4294967296) (hb : b < 4294967296) (w : World) :
 CS 264 #[.int .i64 29, .int .i64 a, .int .i64 b] (.int .i64 (alu_sub a b)) w := zq214
theorem x_reckon_sll (a b : Nat) (ha : a < 4294967296) (hb : b < 4294967296) (w : World) :
 CS 264 #[.int .i64 30, .int .i64 a, .int .i64 b] (.int .i64 (alu_sll a b)) w := by
 have hA := and31 b
 have hr : b % 32 < 32 := by omega
 obtain ⟨r, hr2⟩ := zn1 (b % 32)
 rw [<- hr2] at hA hr
 have HR := hide1 hr2
 clear hr2
 exact zq214
theorem x_reckon_slt (a b : Nat) (ha : a < 4294967296) (hb : b < 4294967296) (w : World) :
 CS 264 #[.int .i64 31, .int .i64 a, .int .i64 b] (.int .i64 (alu_slt a b)) w := zq214
theorem x_reckon_sltu (a b : Nat) (ha : a < 4294967296) (hb : b < 4294967296) (w : World) :
 CS 264 #[.int .i64 32, .int .i64 a, .int .i64 b] (.int .i64 (alu_sltu a b)) w := zq214
theorem x_reckon_xor (a b : Nat) (ha : a < 4294967296) (hb : b < 4294967296) (w : World) :
 CS 264 #[.int .i64 33, .int .i64 a, .int .i64 b] (.int .i64 (alu_xor a b)) w := by
 have hX := b_xor a b (by omega) (by omega)
 exact zq214
theorem x_reckon_srl (a b : Nat) (ha : a < 4294967296) (hb : b < 4294967296) (w : World) :
 CS 264 #[.int .i64 34, .int .i64 a, .int .i64 b] (.int .i64 (alu_srl a b)) w := by
 have hA := and31 b
 have hr : b % 32 < 32 := by omega
 obtain ⟨r, hr2⟩ := zn1 (b % 32)
 rw [<- hr2] at hA hr
 have HR := hide1 hr2
 clear hr2
 have hS := shr_min (a : Int) r hr
 exact zq214
theorem x_reckon_sra (a b : Nat) (ha : a < 4294967296) (hb : b < 4294967296) (w : World) :
 CS 264 #[.int .i64 35, .int .i64 a, .int .i64 b] (.int .i64 (alu_sra a b)) w := by
 have hA := and31 b
 have hr : b % 32 < 32 := by omega
 obtain ⟨r, hr2⟩ := zn1 (b % 32)
 rw [<- hr2] at hA hr
 have HR := hide1 hr2
 clear hr2
 have hS := shr_min (sgn a) r hr
 exact zq214
theorem x_reckon_or (a b : Nat) (ha : a < 4294967296) (hb : b < 4294967296) (w : World) :
 CS 264 #[.int .i64 36, .int .i64 a, .int .i64 b] (.int .i64 (alu_or a b)) w := by
 have hX := b_or a b (by omega) (by omega)
 exact zq214
theorem x_reckon_and (a b : Nat) (ha : a < 4294967296) (hb : b < 4294967296) (w : World) :
 CS 264 #[.int .i64 37, .int .i64 a, .int .i64 b] (.int .i64 (alu_and a b)) w := by
 have hX := b_and a b (by omega) (by omega)
 exact zq214
theorem x_multiply_mul (a b : Nat) (ha : a < 4294967296) (hb : b < 4294967296) (w : World) :
 CS 266 #[.int .i64 42, .int .i64 a, .int .i64 b] (.int .i64 (alu_mul a b)) w := zq215
theorem x_multiply_mulh (a b : Nat) (ha : a < 4294967296) (hb : b < 4294967296) (w : World) :
 CS 266 #[.int .i64 43, .int .i64 a, .int .i64 b] (.int .i64 (alu_mulh a b)) w := zq215
theorem x_multiply_mulhsu (a b : Nat) (ha : a < 4294967296) (hb : b < 4294967296) (w : World) :
 CS 266 #[.int .i64 44, .int .i64 a, .int .i64 b] (.int .i64 (alu_mulhsu a b)) w := zq215
theorem x_multiply_mulhu (a b : Nat) (ha : a < 4294967296) (hb : b < 4294967296) (w : World) :
 CS 266 #[.int .i64 45, .int .i64 a, .int .i64 b] (.int .i64 (alu_mulhu a b)) w := zq216
theorem x_multiply_div (a b : Nat) (ha : a < 4294967296) (hb : b < 4294967296) (w : World) :
 CS 266 #[.int .i64 46, .int .i64 a, .int .i64 b] (.int .i64 (alu_div a b)) w := zq216
theorem x_multiply_divu (a b : Nat) (ha : a < 4294967296) (hb : b < 4294967296) (w : World) :
 CS 266 #[.int .i64 47, .int .i64 a, .int .i64 b] (.int .i64 (alu_divu a b)) w := zq216
theorem x_multiply_rem (a b : Nat) (ha : a < 4294967296) (hb : b < 4294967296) (w : World) :
 CS 266 #[.int .i64 48, .int .i64 a, .int .i64 b] (.int .i64 (alu_rem a b)) w := zq216
theorem x_multiply_remu (a b : Nat) (ha : a < 4294967296) (hb : b < 4294967296) (w : World) :
 CS 266 #[.int .i64 49, .int .i64 a, .int .i64 b] (.int .i64 (alu_remu a b)) w := zq216
theorem x_reckon (op : Int) (h0 : 28 <= op) (h1 : op <= 37) (a b : Nat) (ha : a < 4294967296) (hb : b < 4294967296) (w : World) :
 CS 264 #[.int .i64 op, .int .i64 a, .int .i64 b] (.int .i64 (alu op a b)) w := by
 have h : op = 28 \/ op = 29 \/ op = 30 \/ op = 31 \/ op = 32 \/ op = 33 \/ op = 34 \/ op = 35 \/ op = 36 \/ op = 37 := by omega
 rcases h with rfl | rfl | rfl | rfl | rfl | rfl | rfl | rfl | rfl | rfl
 . exact x_reckon_add a b ha hb w
 . exact x_reckon_sub a b ha hb w
 . exact x_reckon_sll a b ha hb w
 . exact x_reckon_slt a b ha hb w
 . exact x_reckon_sltu a b ha hb w
 . exact x_reckon_xor a b ha hb w
 . exact x_reckon_srl a b ha hb w
 . exact x_reckon_sra a b ha hb w
 . exact x_reckon_or a b ha hb w
 . exact x_reckon_and a b ha hb w
theorem x_multiply (op : Int) (h0 : 42 <= op) (h1 : op <= 49) (a b : Nat) (ha : a < 4294967296) (hb : b < 4294967296) (w : World) :
 CS 266 #[.int .i64 op, .int .i64 a, .int .i64 b] (.int .i64 (alu op a b)) w := by
 have h : op = 42 \/ op = 43 \/ op = 44 \/ op = 45 \/ op = 46 \/ op = 47 \/ op = 48 \/ op = 49 := by omega
 rcases h with rfl | rfl | rfl | rfl | rfl | rfl | rfl | rfl
 . exact x_multiply_mul a b ha hb w
 . exact x_multiply_mulh a b ha hb w
 . exact x_multiply_mulhsu a b ha hb w
 . exact x_multiply_mulhu a b ha hb w
 . exact x_multiply_div a b ha hb w
 . exact x_multiply_divu a b ha hb w
 . exact x_multiply_rem a b ha hb w
 . exact x_multiply_remu a b ha hb w
theorem alu_regD (op : Int) (h0 : 19 <= op) (h1 : op <= 27) (a b : Nat) : alu (xregD op) a b = alu op a b /\ 28 <= xregD op /\ xregD op <= 37 := by
 have h : op = 19 \/ op = 20 \/ op = 21 \/ op = 22 \/ op = 23 \/ op = 24 \/ op = 25 \/ op = 26 \/ op = 27 := by omega
 rcases h with rfl | rfl | rfl | rfl | rfl | rfl | rfl | rfl | rfl <;> exact ⟨rfl, by decide, by decide⟩
def xaccD (op : Int) : Int := if op = 11 \/ op = 14 \/ op = 16 then 1 else if op = 12 \/ op = 15 \/ op = 17 then 2 else 4
theorem x_accessSize (op : Int) (w : World) :
 CS 268 #[.int .i64 op] (.int .i64 (xaccD op)) w := by
 obtain ⟨T, hT⟩ := zn1 (xaccD op)
 rw [<- hT]
 unfold xaccD at hT
 have HT := hide1 hT
 clear hT
 go_enter func268, ntmps268
 exact zq211
def xapuD (op : Int) : Int := if op = 50 then 1 else 2
theorem x_atomicPurpose (op : Int) (w : World) :
 CS 272 #[.int .i64 op] (.int .i64 (xapuD op)) w := by
 obtain ⟨T, hT⟩ := zn1 (xapuD op)
 rw [<- hT]
 unfold xapuD at hT
 have HT := hide1 hT
 clear hT
 go_enter func272, ntmps272
 exact zq211
def xalgD (k : Int) : Int := if k = 1 then 4 else 6
theorem x_alignFault (k : Int) (w : World) :
 CS 273 #[.int .i64 k] (.int .i64 (xalgD k)) w := by
 obtain ⟨T, hT⟩ := zn1 (xalgD k)
 rw [<- hT]
 unfold xalgD at hT
 have HT := hide1 hT
 clear hT
 go_enter func273, ntmps273
 exact zq211
def xfauD (fault kind : Int) : Int := if kind = 0 then (if fault = 1 then 12 else 1) else if kind = 1 then (if fault = 1 then 13 else 5) else (if fault = 1 then 15 else 7)
theorem x_faultCause (f k : Int) (w : World) :
 CS 274 #[.int .i64 f, .int .i64 k] (.int .i64 (xfauD f k)) w := by
 obtain ⟨T, hT⟩ := zn1 (xfauD f k)
 rw [<- hT]
 unfold xfauD at hT
 have HT := hide1 hT
 clear hT
 go_enter func274, ntmps274
 go_wp2_with (go_at_call 347; refine (x_choose _ _ _ _).mono ?_; rintro e w' ⟨rfl, rfl⟩)
 all_goals (go_ret; refine ⟨ret_intE ?_, rfl⟩; rw [HT.out]; simp_all <;> try (by_cases hf : f = 1 <;> simp [hf]))
theorem x_isTimer (a n : Int) (ha0 : -1099511627776 <= a) (ha1 : a <= 1099511627776) (w : World) :
 CS 340 #[.int .i64 a, .int .i64 n] (.bool (decide (n = 4 /\ (a = 33554432 \/ a = 33570816 \/ a = 33570820 \/ a = 33603576 \/ a = 33603580)))) w := by
 obtain ⟨T, hT⟩ := zn1 (decide (n = 4 /\ (a = 33554432 \/ a = 33570816 \/ a = 33570820 \/ a = 33603576 \/ a = 33603580)))
 rw [<- hT]
 have HT := hide1 hT
 clear hT
 go_enter func340, ntmps340
 exact zq217
theorem x_isPort (a n : Int) (ha0 : -1099511627776 <= a) (ha1 : a <= 1099511627776) (w : World) :
 CS 342 #[.int .i64 a, .int .i64 n] (.bool (decide (n = 1 /\ (a = 268435456 \/ a = 268435457 \/ a = 268435458 \/ a = 268435461 \/ a = 268435463)))) w := by
 obtain ⟨T, hT⟩ := zn1 (decide (n = 1 /\ (a = 268435456 \/ a = 268435457 \/ a = 268435458 \/ a = 268435461 \/ a = 268435463)))
 rw [<- hT]
 have HT := hide1 hT
 clear hT
 go_enter func342, ntmps342
 exact zq217
theorem x_pageAddress (e : Nat) (he : e < 4294967296) (w : World) :
 CS 335 #[.int .i64 e] (.int .i64 ((e / 1024 * 4096 : Nat) : Int)) w := by
 go_enter func335, ntmps335
 go_wp2_with fail
 go_ret
 exact ⟨ret_intE (by simp), rfl⟩
theorem x_isBranch (op : Int) (w : World) :
 CS 192 #[.int .i64 op] (.bool (decide (5 <= op /\ op <= 10))) w := by
 obtain ⟨T, hT⟩ := zn1 (decide (5 <= op /\ op <= 10))
 rw [<- hT]
 have HT := hide1 hT
 clear hT
 go_enter func192, ntmps192
 exact zq217
def xresD (op : Int) : Bool := decide ((1 <= op /\ op <= 4) \/ (19 <= op /\ op <= 37) \/ (42 <= op /\ op <= 49))
theorem x_hasResult (op : Int) (w : World) :
 CS 195 #[.int .i64 op] (.bool (xresD op)) w := by
 obtain ⟨T, hT⟩ := zn1 (xresD op)
 rw [<- hT]
 unfold xresD at hT
 have HT := hide1 hT
 clear hT
 go_enter func195, ntmps195
 exact zq217
def xforD (op : Int) : Int := if op = 68 then 4194304 else if op = 69 then 2097152 else 1048576
theorem x_forbidding (op : Int) (w : World) :
 CS 281 #[.int .i64 op] (.int .i64 (xforD op)) w := by
 obtain ⟨T, hT⟩ := zn1 (xforD op)
 rw [<- hT]
 unfold xforD at hT
 have HT := hide1 hT
 clear hT
 go_enter func281, ntmps281
 exact zq211
def xchgD (op : Int) (was v : Nat) : Nat := if op = 62 \/ op = 65 then was ||| v else if op = 63 \/ op = 66 then wout was v else v
theorem x_changed (op : Int) (was v : Nat) (h1 : was < 4294967296) (h2 : v < 4294967296) (w : World) :
 CS 280 #[.int .i64 op, .int .i64 was, .int .i64 v] (.int .i64 (xchgD op was v)) w := by
 obtain ⟨T, hT⟩ := zn1 (xchgD op was v)
 rw [<- hT]
 unfold xchgD at hT
 have HT := hide1 hT
 clear hT
 have q1 := b_or was v (by omega) (by omega)
 have q2 := b_andn was v (by omega) (by omega)
 go_enter func280, ntmps280
 exact zq211
theorem ne0 (n : Nat) : ((n : Int) != 0) = !decide (n = 0) := by by_cases h : n = 0 <;> simp [h]
def xsetD (v m : Nat) (so : Bool) : Nat := bif so then v ||| m else wout v m
theorem xsetD_lt (v m : Nat) (so : Bool) (hv : v < 4294967296) (hm : m < 4294967296) : xsetD v m so < 4294967296 := by
 cases so
 . exact Nat.lt_of_le_of_lt (wout_le _ _) hv
 . exact nat_or_lt v m 32 hv hm
def xstrD (s mode : Nat) : Nat := wout (xsetD (xsetD s 32 (!decide (s &&& 2 = 0))) 256 (decide (mode = 1))) 2
theorem x_superTrapped (s mode : Nat) (hs : s < 4294967296) (w : World) :
 CS 188 #[.int .i64 s, .int .i64 mode] (.int .i64 (xstrD s mode)) w := by
 have q1 : bits .and .i64 (s : Int) 2 = ((s &&& 2 : Nat) : Int) := b_and s 2 (by omega) (by omega)
 have q2 := ne0 (s &&& 2)
 obtain ⟨b, hb⟩ := zn1 (!decide (s &&& 2 = 0))
 rw [<- q1, <- hb] at q2
 obtain ⟨s1, h1⟩ := zn1 (xsetD s 32 b)
 have l1 : s1 < 4294967296 := zq8
 have S1 : Hid (CS 258 #[.int .i64 s, .int .i64 32, .bool b] (.int .i64 (s1 : Int)) w) := by rw [h1]; exact hide1 (x_setIf s 32 b hs (by omega) w)
 obtain ⟨c, hc⟩ := zn1 (decide (mode = 1))
 have q3 : ((mode : Int) == 1) = c := by rw [hc]; by_cases h : mode = 1 <;> simp [h]; omega
 obtain ⟨s2, h2⟩ := zn1 (xsetD s1 256 c)
 have l2 : s2 < 4294967296 := by rw [h2]; exact xsetD_lt _ _ _ l1 (by omega)
 have S2 : Hid (CS 258 #[.int .i64 s1, .int .i64 256, .bool c] (.int .i64 (s2 : Int)) w) := by rw [h2]; exact hide1 (x_setIf s1 256 c l1 (by omega) w)
 have q4 : bits .andNot .i64 (s2 : Int) 2 = ((wout s2 2 : Nat) : Int) := b_andn s2 2 (by omega) (by omega)
 have R : xstrD s mode = wout s2 2 := by unfold xstrD; rw [<- hb, <- hc, <- h1, <- h2]
 rw [R]
 clear R hb hc h1 h2 q1
 go_enter func188, ntmps188
 exact zq218
def xmtrD (s mode : Nat) : Nat := wout (xmixD (xsetD s 128 (!decide (s &&& 8 = 0))) (mode * 2048) 6144) 8
theorem xmixD_lt (a v m : Nat) (ha : a < 4294967296) (hm : m < 4294967296) : xmixD a v m < 4294967296 := nat_or_lt _ _ 32 (Nat.lt_of_le_of_lt (wout_le _ _) ha) (Nat.lt_of_le_of_lt Nat.and_le_right hm)
theorem x_machTrapped (s mode : Nat) (hs : s < 4294967296) (hm : mode < 4) (w : World) :
 CS 190 #[.int .i64 s, .int .i64 mode] (.int .i64 (xmtrD s mode)) w := by
 have q1 : bits .and .i64 (s : Int) 8 = ((s &&& 8 : Nat) : Int) := b_and s 8 (by omega) (by omega)
 have q2 := ne0 (s &&& 8)
 obtain ⟨b, hb⟩ := zn1 (!decide (s &&& 8 = 0))
 rw [<- q1, <- hb] at q2
 obtain ⟨s1, h1⟩ := zn1 (xsetD s 128 b)
 have l1 : s1 < 4294967296 := zq8
 have S1 : Hid (CS 258 #[.int .i64 s, .int .i64 128, .bool b] (.int .i64 (s1 : Int)) w) := by rw [h1]; exact hide1 (x_setIf s 128 b hs (by omega) w)
 obtain ⟨m, hm2⟩ := zn1 (mode * 2048)
 have q3 : (mode : Int) * 2048 = (m : Int) := by omega
 obtain ⟨s2, h2⟩ := zn1 (xmixD s1 m 6144)
 have l2 : s2 < 4294967296 := by rw [h2]; exact xmixD_lt _ _ _ l1 (by omega)
 have S2 : Hid (CS 259 #[.int .i64 s1, .int .i64 m, .int .i64 6144] (.int .i64 (s2 : Int)) w) := by rw [h2]; exact hide1 (x_mixed s1 m 6144 l1 (by omega) (by omega) w)
 have q4 : bits .andNot .i64 (s2 : Int) 8 = ((wout s2 8 : Nat) : Int) := b_andn s2 8 (by omega) (by omega)
 have R : xmtrD s mode = wout s2 8 := by unfold xmtrD; rw [<- hb, <- hm2, <- h1, <- h2]
 rw [R]
 clear R hb h1 h2 q1 hm2
 go_enter func190, ntmps190
 exact zq218
def xsretD (s : Nat) : Nat := wout (xsetD s 2 (!decide (s &&& 32 = 0))) 131328 ||| 32
theorem x_superReturned (s : Nat) (hs : s < 4294967296) (w : World) :
 CS 283 #[.int .i64 s] (.int .i64 (xsretD s)) w := by
 have q1 : bits .and .i64 (s : Int) 32 = ((s &&& 32 : Nat) : Int) := b_and s 32 (by omega) (by omega)
 have q2 := ne0 (s &&& 32)
 obtain ⟨b, hb⟩ := zn1 (!decide (s &&& 32 = 0))
 rw [<- q1, <- hb] at q2
 obtain ⟨s1, h1⟩ := zn1 (xsetD s 2 b)
 have l1 : s1 < 4294967296 := zq8
 have S1 : Hid (CS 258 #[.int .i64 s, .int .i64 2, .bool b] (.int .i64 (s1 : Int)) w) := by rw [h1]; exact hide1 (x_setIf s 2 b hs (by omega) w)
 have q4 : bits .andNot .i64 (s1 : Int) 131328 = ((wout s1 131328 : Nat) : Int) := b_andn s1 131328 (by omega) (by omega)
 have q5 : bits .or .i64 ((wout s1 131328 : Nat) : Int) 32 = ((wout s1 131328 ||| 32 : Nat) : Int) := b_or (wout s1 131328) 32 (Nat.lt_of_le_of_lt (wout_le _ _) (by omega)) (by omega)
 have R : xsretD s = wout s1 131328 ||| 32 := by unfold xsretD; rw [<- hb, <- h1]
 rw [R]
 clear R hb h1 q1
 go_enter func283, ntmps283
 exact zq219
def xmretA (s : Nat) : Nat := if s &&& 6144 = 6144 then s else wout s 131072
def xmretD (s : Nat) : Nat := wout (xsetD (xmretA s) 8 (!decide (xmretA s &&& 128 = 0))) 6144 ||| 128
theorem x_machReturned (s : Nat) (hs : s < 4294967296) (w : World) :
 CS 282 #[.int .i64 s] (.int .i64 (xmretD s)) w := by
 have p1 : bits .and .i64 (s : Int) 6144 = ((s &&& 6144 : Nat) : Int) := b_and s 6144 (by omega) (by omega)
 have p2 : bits .andNot .i64 (s : Int) 131072 = ((wout s 131072 : Nat) : Int) := b_andn s 131072 (by omega) (by omega)
 have hmA : xmretA s < 4294967296 := by
  unfold xmretA; split
  . exact hs
  . exact Nat.lt_of_le_of_lt (wout_le _ _) hs
 unfold xmretD
 obtain ⟨t, ht⟩ := zn1 (xmretA s)
 rw [<- ht] at hmA |-
 have q1 : bits .and .i64 (t : Int) 128 = ((t &&& 128 : Nat) : Int) := b_and t 128 (by omega) (by omega)
 have q2 := ne0 (t &&& 128)
 obtain ⟨b, hb⟩ := zn1 (!decide (t &&& 128 = 0))
 rw [<- q1, <- hb] at q2
 obtain ⟨s1, h1⟩ := zn1 (xsetD t 8 b)
 have l1 : s1 < 4294967296 := by rw [h1]; exact xsetD_lt _ _ _ hmA (by omega)
 have S1 : Hid (CS 258 #[.int .i64 t, .int .i64 8, .bool b] (.int .i64 (s1 : Int)) w) := by rw [h1]; exact hide1 (x_setIf t 8 b hmA (by omega) w)
 have q4 : bits .andNot .i64 (s1 : Int) 6144 = ((wout s1 6144 : Nat) : Int) := b_andn s1 6144 (by omega) (by omega)
 have q5 : bits .or .i64 ((wout s1 6144 : Nat) : Int) 128 = ((wout s1 6144 ||| 128 : Nat) : Int) := b_or (wout s1 6144) 128 (Nat.lt_of_le_of_lt (wout_le _ _) (by omega)) (by omega)
 rw [<- hb, <- h1]
 clear hb h1 q1
 unfold xmretA at ht
 by_cases h : s &&& 6144 = 6144
 . rw [if_pos h] at ht
   subst ht
   rw [h] at p1
   have p1' : bits .and .i64 (t : Int) 6144 = 6144 := p1
   clear p1 h
   exact zq220
 . rw [if_neg h] at ht
   have p3 : (bits .and .i64 (s : Int) 6144 != 6144) = true := by rw [p1]; simp; omega
   rw [<- ht] at p2
   clear p1 h ht
   exact zq220
def xstwD (s v : Nat) : Nat := if v &&& 6144 = 4096 then xmixD s v 8257962 else v &&& 8264106
theorem x_statusWritten (s v : Nat) (hs : s < 4294967296) (hv : v < 4294967296) (w : World) :
 CS 380 #[.int .i64 s, .int .i64 v] (.int .i64 (xstwD s v)) w := by
 have p1 : bits .and .i64 (v : Int) 6144 = ((v &&& 6144 : Nat) : Int) := b_and v 6144 (by omega) (by omega)
 have p2 : bits .and .i64 (v : Int) 8264106 = ((v &&& 8264106 : Nat) : Int) := b_and v 8264106 (by omega) (by omega)
 obtain ⟨T, hT⟩ := zn1 (xstwD s v)
 rw [<- hT]
 unfold xstwD at hT
 by_cases h : v &&& 6144 = 4096
 . rw [if_pos h] at hT
   rw [h] at p1
   have p1' : bits .and .i64 (v : Int) 6144 = 4096 := p1
   clear p1 h
   have S1 : Hid (CS 259 #[.int .i64 s, .int .i64 v, .int .i64 8257962] (.int .i64 (T : Int)) w) := by rw [hT]; exact hide1 (x_mixed s v 8257962 hs hv (by omega) w)
   clear hT
   go_enter func380, ntmps380
   exact zq219
 . rw [if_neg h] at hT
   have p3 : (bits .and .i64 (v : Int) 6144 == 4096) = false := by rw [p1]; simp; omega
   rw [<- hT] at p2
   clear p1 h hT
   go_enter func380, ntmps380
   exact zq210
def xmuD (a : Nat) : Int := if xhbD a 11 then 11 else if xhbD a 3 then 3 else if xhbD a 7 then 7 else if xhbD a 9 then 9 else if xhbD a 1 then 1 else if xhbD a 5 then 5 else -1
theorem x_mostUrgent (a : Nat) (ha : a < 4294967296) (w : World) :
 CS 127 #[.int .i64 a] (.int .i64 (xmuD a)) w := by
 have HB : ∀ k : Nat, Hid (CS 187 #[.int .i64 a, .int .i64 k] (.bool (xhbD a k)) w) := fun k => hide1 (x_hasBit a k ha w)
 have H11 : Hid (CS 187 #[.int .i64 a, .int .i64 11] (.bool (xhbD a 11)) w) := HB 11
 have H3 : Hid (CS 187 #[.int .i64 a, .int .i64 3] (.bool (xhbD a 3)) w) := HB 3
 have H7 : Hid (CS 187 #[.int .i64 a, .int .i64 7] (.bool (xhbD a 7)) w) := HB 7
 have H9 : Hid (CS 187 #[.int .i64 a, .int .i64 9] (.bool (xhbD a 9)) w) := HB 9
 have H1 : Hid (CS 187 #[.int .i64 a, .int .i64 1] (.bool (xhbD a 1)) w) := HB 1
 have H5 : Hid (CS 187 #[.int .i64 a, .int .i64 5] (.bool (xhbD a 5)) w) := HB 5
 unfold xmuD
 obtain ⟨b11, h11⟩ := zn1 (xhbD a 11)
 obtain ⟨b3, h3⟩ := zn1 (xhbD a 3)
 obtain ⟨b7, h7⟩ := zn1 (xhbD a 7)
 obtain ⟨b9, h9⟩ := zn1 (xhbD a 9)
 obtain ⟨b1, h1⟩ := zn1 (xhbD a 1)
 obtain ⟨b5, h5⟩ := zn1 (xhbD a 5)
 rw [<- h11] at H11 |-
 rw [<- h3] at H3 |-
 rw [<- h7] at H7 |-
 rw [<- h9] at H9 |-
 rw [<- h1] at H1 |-
 rw [<- h5] at H5 |-
 clear h11 h3 h7 h9 h1 h5 HB
 cases b11
 case true =>
  go_enter func127, ntmps127
  go_wp2_with fail
  refine H11.out.mono ?_
  exact zq221
 cases b3
 case true =>
  go_enter func127, ntmps127
  go_wp2_with fail
  refine H11.out.mono ?_
  rintro e w1 ⟨rfl, rfl⟩
  go_wp2_with fail
  refine H3.out.mono ?_
  exact zq221
 cases b7
 case true =>
  go_enter func127, ntmps127
  go_wp2_with fail
  refine H11.out.mono ?_
  rintro e w1 ⟨rfl, rfl⟩
  go_wp2_with fail
  refine H3.out.mono ?_
  rintro e w1 ⟨rfl, rfl⟩
  go_wp2_with fail
  refine H7.out.mono ?_
  exact zq221
 cases b9
 case true =>
  go_enter func127, ntmps127
  go_wp2_with fail
  refine H11.out.mono ?_
  rintro e w1 ⟨rfl, rfl⟩
  go_wp2_with fail
  refine H3.out.mono ?_
  rintro e w1 ⟨rfl, rfl⟩
  go_wp2_with fail
  refine H7.out.mono ?_
  rintro e w1 ⟨rfl, rfl⟩
  go_wp2_with fail
  refine H9.out.mono ?_
  exact zq221
 cases b1
 case true =>
  go_enter func127, ntmps127
  go_wp2_with fail
  refine H11.out.mono ?_
  rintro e w1 ⟨rfl, rfl⟩
  go_wp2_with fail
  refine H3.out.mono ?_
  rintro e w1 ⟨rfl, rfl⟩
  go_wp2_with fail
  refine H7.out.mono ?_
  rintro e w1 ⟨rfl, rfl⟩
  go_wp2_with fail
  refine H9.out.mono ?_
  rintro e w1 ⟨rfl, rfl⟩
  go_wp2_with fail
  refine H1.out.mono ?_
  exact zq221
 cases b5
 all_goals
  go_enter func127, ntmps127
  go_wp2_with fail
  refine H11.out.mono ?_
  rintro e w1 ⟨rfl, rfl⟩
  go_wp2_with fail
  refine H3.out.mono ?_
  rintro e w1 ⟨rfl, rfl⟩
  go_wp2_with fail
  refine H7.out.mono ?_
  rintro e w1 ⟨rfl, rfl⟩
  go_wp2_with fail
  refine H9.out.mono ?_
  rintro e w1 ⟨rfl, rfl⟩
  go_wp2_with fail
  refine H1.out.mono ?_
  rintro e w1 ⟨rfl, rfl⟩
  go_wp2_with fail
  refine H5.out.mono ?_
  rintro e w1 ⟨rfl, rfl⟩
  go_wp2_with fail
  go_ret
  exact ⟨rfl, rfl⟩
def xhdlD (tvec cause : Nat) : Nat := if 2147483648 <= cause /\ ¬ tvec &&& 1 = 0 then (wout tvec 3 + 4 * (cause - 2147483648)) % 4294967296 else wout tvec 3
theorem x_handler (t c : Nat) (ht : t < 4294967296) (hc : c < 4294967296) (w : World) :
 CS 189 #[.int .i64 t, .int .i64 c] (.int .i64 (xhdlD t c)) w := by
 have p1 : bits .andNot .i64 (t : Int) 3 = ((wout t 3 : Nat) : Int) := b_andn t 3 (by omega) (by omega)
 have p2 : bits .and .i64 (t : Int) 1 = ((t &&& 1 : Nat) : Int) := b_and t 1 (by omega) (by omega)
 have p3 := ne0 (t &&& 1)
 rw [<- p2] at p3
 have p4 := wout_le t 3
 obtain ⟨T, hT⟩ := zn1 (xhdlD t c)
 rw [<- hT]
 unfold xhdlD at hT
 obtain ⟨u, hu⟩ := zn1 (wout t 3)
 rw [<- hu] at hT p1 p4
 have W1 : Hid (wordN (u : Int) = u) := hide1 (wordN_of u (by omega))
 clear hu
 by_cases h : 2147483648 <= c
 . by_cases h2 : t &&& 1 = 0
   . rw [if_neg (fun h => h.2 h2)] at hT
     have p5 : (bits .and .i64 (t : Int) 1 != 0) = false := by rw [p3, h2]; rfl
     subst hT
     clear p3 h2 p2
     exact zq222
   . rw [if_pos ⟨h, h2⟩] at hT
     have p5 : (bits .and .i64 (t : Int) 1 != 0) = true := by rw [p3]; rw [decide_eq_false h2]; rfl
     have HT := hide1 hT
     clear p3 h2 p2 hT
     go_enter func189, ntmps189
     go_wp2_with (go_at_call 135; refine (x_word _ _).mono ?_; rintro e w' ⟨rfl, rfl⟩)
     go_ret
     exact ⟨ret_intE (by rw [HT.out]; unfold wordN; omega), rfl⟩
 . rw [if_neg (fun h' => h h'.1)] at hT
   subst hT
   have q : decide ((2147483648 : Int) <= c) = false := by simp; omega
   exact zq222
theorem x_isPointer (e : Nat) (he : e < 4294967296) (w : World) :
 CS 376 #[.int .i64 e] (.bool (decide (e &&& 10 = 0))) w := by
 have p2 : bits .and .i64 (e : Int) 10 = ((e &&& 10 : Nat) : Int) := b_and e 10 (by omega) (by omega)
 have p3 : ((((e &&& 10 : Nat)) : Int) == 0) = decide (e &&& 10 = 0) := by by_cases h : e &&& 10 = 0 <;> simp [h]
 obtain ⟨b, hb⟩ := zn1 (decide (e &&& 10 = 0))
 rw [<- p2, <- hb] at p3
 rw [<- hb]
 clear p2 hb
 go_enter func376, ntmps376
 exact zq210
theorem x_modified (op : Int) (h0 : 52 <= op) (h1 : op <= 60) (a b : Nat) (ha : a < 4294967296) (hb : b < 4294967296) (w : World) :
 CS 349 #[.int .i64 op, .int .i64 a, .int .i64 b] (.int .i64 (alu op a b)) w := by
 have q1 := b_xor a b (by omega) (by omega)
 have q2 := b_and a b (by omega) (by omega)
 have q3 := b_or a b (by omega) (by omega)
 have h : op = 52 \/ op = 53 \/ op = 54 \/ op = 55 \/ op = 56 \/ op = 57 \/ op = 58 \/ op = 59 \/ op = 60 := by omega
 have hi : ∀ p : Prop, ∀ _ : Decidable p, (bif decide p then (a : Int) else b) = ((if p then a else b : Nat) : Int) := by
  intro p _; by_cases h : p <;> simp [h]
 have HI := hide1 hi
 clear hi
 rcases h with rfl | rfl | rfl | rfl | rfl | rfl | rfl | rfl | rfl
 all_goals
  go_enter func349, ntmps349
  go_wp2_with (first | (go_at_call 135; refine (x_word _ _).mono ?_; rintro e w' ⟨rfl, rfl⟩) | (go_at_call 263; refine (x_signed _ (by assumption) _).mono ?_; rintro e w' ⟨rfl, rfl⟩) | (go_at_call 347; refine (x_choose _ _ _ _).mono ?_; rintro e w' ⟨rfl, rfl⟩))
  go_ret
  refine ⟨ret_intE ?_, rfl⟩
  try simp only [wordN_wrap]
 . rfl
 . exact u_add a b
 . rfl
 . rfl
 . rfl
 . exact HI.out _ _
 . exact HI.out _ _
 . exact HI.out _ _
 . exact HI.out _ _
structure XCsr where
 mstatus : Nat
 medeleg : Nat
 mideleg : Nat
 mie : Nat
 mip : Nat
 mtvec : Nat
 mcen : Nat
 minh : Nat
 mscratch : Nat
 mepc : Nat
 mcause : Nat
 mtval : Nat
 stvec : Nat
 scen : Nat
 sscratch : Nat
 sepc : Nat
 scause : Nat
 stval : Nat
 satp : Nat
 cyc : Nat
 cych : Nat
 ret : Nat
 reth : Nat
structure XS where
 b : BusS
 c : XCsr
 x : List Nat
 pc : Nat
 mode : Nat
 waits : Bool
 resd : Bool
 resv : Nat
def xL (rb : Nat) (X : XS) : List Value := [.slice (some ⟨rb, 0, none⟩) X.b.ram.length X.b.ram.length, .int .i64 (X.x.getD 0 0), .int .i64 (X.x.getD 1 0), .int .i64 (X.x.getD 2 0), .int .i64 (X.x.getD 3 0), .int .i64 (X.x.getD 4 0), .int .i64 (X.x.getD 5 0), .int .i64 (X.x.getD 6 0), .int .i64 (X.x.getD 7 0), .int .i64 (X.x.getD 8 0), .int .i64 (X.x.getD 9 0), .int .i64 (X.x.getD 10 0), .int .i64 (X.x.getD 11 0), .int .i64 (X.x.getD 12 0), .int .i64 (X.x.getD 13 0), .int .i64 (X.x.getD 14 0), .int .i64 (X.x.getD 15 0), .int .i64 (X.x.getD 16 0), .int .i64 (X.x.getD 17 0), .int .i64 (X.x.getD 18 0), .int .i64 (X.x.getD 19 0), .int .i64 (X.x.getD 20 0), .int .i64 (X.x.getD 21 0), .int .i64 (X.x.getD 22 0), .int .i64 (X.x.getD 23 0), .int .i64 (X.x.getD 24 0), .int .i64 (X.x.getD 25 0), .int .i64 (X.x.getD 26 0), .int .i64 (X.x.getD 27 0), .int .i64 (X.x.getD 28 0), .int .i64 (X.x.getD 29 0), .int .i64 (X.x.getD 30 0), .int .i64 (X.x.getD 31 0), .int .i64 X.pc, .int .i64 X.mode, .bool X.waits, .bool X.resd, .int .i64 X.resv, .int .i64 X.c.mstatus, .int .i64 X.c.medeleg, .int .i64 X.c.mideleg, .int .i64 X.c.mie, .int .i64 X.c.mip, .int .i64 X.c.mtvec, .int .i64 X.c.mcen, .int .i64 X.c.minh, .int .i64 X.c.mscratch, .int .i64 X.c.mepc, .int .i64 X.c.mcause, .int .i64 X.c.mtval, .int .i64 X.c.stvec, .int .i64 X.c.scen, .int .i64 X.c.sscratch, .int .i64 X.c.sepc, .int .i64 X.c.scause, .int .i64 X.c.stval, .int .i64 X.c.satp, .int .i64 X.c.cyc, .int .i64 X.c.cych, .int .i64 X.c.ret, .int .i64 X.c.reth, .int .i64 X.b.msip, .int .i64 X.b.time, .int .i64 X.b.timeh, .int .i64 X.b.cmp, .int .i64 X.b.cmph, .int .i64 X.b.enable, .int .i64 X.b.scratch, .bool X.b.lost, .string X.b.rx, .string X.b.tx]
structure XAt (w : World) (mb rb : Nat) (X : XS) : Prop where
 cell : ∀ k, k < 71 -> w.cell? ⟨mb, k, none⟩ = (xL rb X)[k]?
 fro : ∀ o, w.frozen? ⟨mb, o, none⟩ = false
 lt : mb < w.heap.size
 ram : ∀ j (h : j < X.b.ram.length), w.cell? ⟨rb, j, none⟩ = some (.int .u8 (X.b.ram[j].toNat : Int))
 rfro : ∀ o, w.frozen? ⟨rb, o, none⟩ = false
 rlt : rb < w.heap.size
 ne : mb ≠ rb
abbrev CX (f : Nat) (a : Array Value) (r : Value) (F : List Nat) (mb rb : Nat) (X : XS) (w : World) : Prop := Calls prog f a w fun e w' => e = .returned r /\ XAt w' mb rb X /\ Kept F w w'
theorem XAt.more {w w' : World} {mb rb : Nat} {X : XS} {G : List Nat} (h : XAt w mb rb X) (hk : Kept G w w') (h1 : mb ∉ G) (h2 : rb ∉ G) : XAt w' mb rb X :=
 ⟨fun k hk' => (hk.cell (p := ⟨mb, k, none⟩) h.lt h1).trans (h.cell k hk'), fun o => (hk.frozen (p := ⟨mb, o, none⟩) h.lt h1).trans (h.fro o), Nat.lt_of_lt_of_le h.lt hk.size, fun j hj => (hk.cell (p := ⟨rb, j, none⟩) h.rlt h2).trans (h.ram j hj), fun o => (hk.frozen (p := ⟨rb, o, none⟩) h.rlt h2).trans (h.rfro o), Nat.lt_of_lt_of_le h.rlt hk.size, h.ne⟩
theorem XAt.kept {w w' : World} {mb rb : Nat} {X : XS} (h : XAt w mb rb X) (hk : Kept [] w w') : XAt w' mb rb X := h.more hk (by simp) (by simp)
theorem XAt.alloc {w mb rb X} (h : XAt w mb rb X) (o : Obj) : XAt (w.alloc o) mb rb X := h.kept ((Kept.refl [] w).alloc o)
theorem XAt.drew {w mb rb X} (h : XAt w mb rb X) : XAt w.drew mb rb X := h.kept (Kept.refl [] w).drew
theorem xL_len (rb : Nat) (X : XS) : (xL rb X).length = 71 := rfl
theorem XAt.set {w : World} {mb rb : Nat} {X X' : XS} (h : XAt w mb rb X) (k : Nat) (v : Value) (e : xL rb X' = (xL rb X).set k v) (er : X'.b.ram = X.b.ram) (hk : k < 71) : XAt (w.setCell ⟨mb, k, none⟩ v) mb rb X' := by
 have hl := xL_len rb X
 have hf := h.fro
 have hlt := h.lt
 have hne := h.ne
 have hne' : ¬ rb = mb := fun e => hne e.symm
 have hck := h.cell k hk
 rw [List.getElem?_eq_getElem (show k < (xL rb X).length by omega)] at hck
 refine ⟨fun j hj => ?_, ?_, ?_, ?_, ?_, ?_, hne⟩
 . have hc := h.cell j hj
   rw [e]
   by_cases ek : j = k
   . subst ek
     rw [List.getElem?_set_self (by omega)]
     simp [go_sem, hck]
   . have ek' : ¬ k = j := fun h => ek h.symm
     rw [List.getElem?_set_ne ek', <- hc]
     simp [go_sem, ek, ek']
 . simp [go_sem, hf]
 . simp [go_sem, hlt]
 . intro j hj
   have hj' : j < X.b.ram.length := by rw [<- er]; exact hj
   have hc := h.ram j hj'
   have : X'.b.ram[j] = X.b.ram[j] := by congr 1
   rw [this, <- hc]
   simp [go_sem, hne', hne]
 . have := h.rfro
   simp [go_sem, this]
 . have := h.rlt
   simp [go_sem, this]
theorem XAt.c0 {w mb rb X} (h : XAt w mb rb X) : w.cell? ⟨mb, 0, none⟩ = some (.slice (some ⟨rb, 0, none⟩) X.b.ram.length X.b.ram.length) := h.cell 0 (by omega)
theorem XAt.c1 {w mb rb X} (h : XAt w mb rb X) : w.cell? ⟨mb, 1, none⟩ = some (.int .i64 (X.x.getD 0 0)) := h.cell 1 (by omega)
theorem XAt.c2 {w mb rb X} (h : XAt w mb rb X) : w.cell? ⟨mb, 2, none⟩ = some (.int .i64 (X.x.getD 1 0)) := h.cell 2 (by omega)
theorem XAt.c3 {w mb rb X} (h : XAt w mb rb X) : w.cell? ⟨mb, 3, none⟩ = some (.int .i64 (X.x.getD 2 0)) := h.cell 3 (by omega)
theorem XAt.c4 {w mb rb X} (h : XAt w mb rb X) : w.cell? ⟨mb, 4, none⟩ = some (.int .i64 (X.x.getD 3 0)) := h.cell 4 (by omega)
theorem XAt.c5 {w mb rb X} (h : XAt w mb rb X) : w.cell? ⟨mb, 5, none⟩ = some (.int .i64 (X.x.getD 4 0)) := h.cell 5 (by omega)
theorem XAt.c6 {w mb rb X} (h : XAt w mb rb X) : w.cell? ⟨mb, 6, none⟩ = some (.int .i64 (X.x.getD 5 0)) := h.cell 6 (by omega)
theorem XAt.c7 {w mb rb X} (h : XAt w mb rb X) : w.cell? ⟨mb, 7, none⟩ = some (.int .i64 (X.x.getD 6 0)) := h.cell 7 (by omega)
theorem XAt.c8 {w mb rb X} (h : XAt w mb rb X) : w.cell? ⟨mb, 8, none⟩ = some (.int .i64 (X.x.getD 7 0)) := h.cell 8 (by omega)
theorem XAt.c9 {w mb rb X} (h : XAt w mb rb X) : w.cell? ⟨mb, 9, none⟩ = some (.int .i64 (X.x.getD 8 0)) := h.cell 9 (by omega)
theorem XAt.c11 {w mb rb X} (h : XAt w mb rb X) : w.cell? ⟨mb, 11, none⟩ = some (.int .i64 (X.x.getD 10 0)) := h.cell 11 (by omega)
theorem XAt.c13 {w mb rb X} (h : XAt w mb rb X) : w.cell? ⟨mb, 13, none⟩ = some (.int .i64 (X.x.getD 12 0)) := h.cell 13 (by omega)
theorem XAt.c16 {w mb rb X} (h : XAt w mb rb X) : w.cell? ⟨mb, 16, none⟩ = some (.int .i64 (X.x.getD 15 0)) := h.cell 16 (by omega)
theorem XAt.c32 {w mb rb X} (h : XAt w mb rb X) : w.cell? ⟨mb, 32, none⟩ = some (.int .i64 (X.x.getD 31 0)) := h.cell 32 (by omega)
theorem XAt.c33 {w mb rb X} (h : XAt w mb rb X) : w.cell? ⟨mb, 33, none⟩ = some (.int .i64 X.pc) := h.cell 33 (by omega)
theorem XAt.c34 {w mb rb X} (h : XAt w mb rb X) : w.cell? ⟨mb, 34, none⟩ = some (.int .i64 X.mode) := h.cell 34 (by omega)
theorem XAt.c35 {w mb rb X} (h : XAt w mb rb X) : w.cell? ⟨mb, 35, none⟩ = some (.bool X.waits) := h.cell 35 (by omega)
theorem XAt.c36 {w mb rb X} (h : XAt w mb rb X) : w.cell? ⟨mb, 36, none⟩ = some (.bool X.resd) := h.cell 36 (by omega)
theorem XAt.c37 {w mb rb X} (h : XAt w mb rb X) : w.cell? ⟨mb, 37, none⟩ = some (.int .i64 X.resv) := h.cell 37 (by omega)
theorem XAt.c38 {w mb rb X} (h : XAt w mb rb X) : w.cell? ⟨mb, 38, none⟩ = some (.int .i64 X.c.mstatus) := h.cell 38 (by omega)
theorem XAt.c39 {w mb rb X} (h : XAt w mb rb X) : w.cell? ⟨mb, 39, none⟩ = some (.int .i64 X.c.medeleg) := h.cell 39 (by omega)
theorem XAt.c40 {w mb rb X} (h : XAt w mb rb X) : w.cell? ⟨mb, 40, none⟩ = some (.int .i64 X.c.mideleg) := h.cell 40 (by omega)
theorem XAt.c41 {w mb rb X} (h : XAt w mb rb X) : w.cell? ⟨mb, 41, none⟩ = some (.int .i64 X.c.mie) := h.cell 41 (by omega)
theorem XAt.c42 {w mb rb X} (h : XAt w mb rb X) : w.cell? ⟨mb, 42, none⟩ = some (.int .i64 X.c.mip) := h.cell 42 (by omega)
theorem XAt.c43 {w mb rb X} (h : XAt w mb rb X) : w.cell? ⟨mb, 43, none⟩ = some (.int .i64 X.c.mtvec) := h.cell 43 (by omega)
theorem XAt.c44 {w mb rb X} (h : XAt w mb rb X) : w.cell? ⟨mb, 44, none⟩ = some (.int .i64 X.c.mcen) := h.cell 44 (by omega)
theorem XAt.c45 {w mb rb X} (h : XAt w mb rb X) : w.cell? ⟨mb, 45, none⟩ = some (.int .i64 X.c.minh) := h.cell 45 (by omega)
theorem XAt.c46 {w mb rb X} (h : XAt w mb rb X) : w.cell? ⟨mb, 46, none⟩ = some (.int .i64 X.c.mscratch) := h.cell 46 (by omega)
theorem XAt.c47 {w mb rb X} (h : XAt w mb rb X) : w.cell? ⟨mb, 47, none⟩ = some (.int .i64 X.c.mepc) := h.cell 47 (by omega)
theorem XAt.c48 {w mb rb X} (h : XAt w mb rb X) : w.cell? ⟨mb, 48, none⟩ = some (.int .i64 X.c.mcause) := h.cell 48 (by omega)
theorem XAt.c49 {w mb rb X} (h : XAt w mb rb X) : w.cell? ⟨mb, 49, none⟩ = some (.int .i64 X.c.mtval) := h.cell 49 (by omega)
theorem XAt.c50 {w mb rb X} (h : XAt w mb rb X) : w.cell? ⟨mb, 50, none⟩ = some (.int .i64 X.c.stvec) := h.cell 50 (by omega)
theorem XAt.c51 {w mb rb X} (h : XAt w mb rb X) : w.cell? ⟨mb, 51, none⟩ = some (.int .i64 X.c.scen) := h.cell 51 (by omega)
theorem XAt.c52 {w mb rb X} (h : XAt w mb rb X) : w.cell? ⟨mb, 52, none⟩ = some (.int .i64 X.c.sscratch) := h.cell 52 (by omega)
theorem XAt.c53 {w mb rb X} (h : XAt w mb rb X) : w.cell? ⟨mb, 53, none⟩ = some (.int .i64 X.c.sepc) := h.cell 53 (by omega)
theorem XAt.c54 {w mb rb X} (h : XAt w mb rb X) : w.cell? ⟨mb, 54, none⟩ = some (.int .i64 X.c.scause) := h.cell 54 (by omega)
theorem XAt.c55 {w mb rb X} (h : XAt w mb rb X) : w.cell? ⟨mb, 55, none⟩ = some (.int .i64 X.c.stval) := h.cell 55 (by omega)
theorem XAt.c56 {w mb rb X} (h : XAt w mb rb X) : w.cell? ⟨mb, 56, none⟩ = some (.int .i64 X.c.satp) := h.cell 56 (by omega)
theorem XAt.c57 {w mb rb X} (h : XAt w mb rb X) : w.cell? ⟨mb, 57, none⟩ = some (.int .i64 X.c.cyc) := h.cell 57 (by omega)
theorem XAt.c58 {w mb rb X} (h : XAt w mb rb X) : w.cell? ⟨mb, 58, none⟩ = some (.int .i64 X.c.cych) := h.cell 58 (by omega)
theorem XAt.c59 {w mb rb X} (h : XAt w mb rb X) : w.cell? ⟨mb, 59, none⟩ = some (.int .i64 X.c.ret) := h.cell 59 (by omega)
theorem XAt.c60 {w mb rb X} (h : XAt w mb rb X) : w.cell? ⟨mb, 60, none⟩ = some (.int .i64 X.c.reth) := h.cell 60 (by omega)
theorem XAt.c61 {w mb rb X} (h : XAt w mb rb X) : w.cell? ⟨mb, 61, none⟩ = some (.int .i64 X.b.msip) := h.cell 61 (by omega)
theorem XAt.c62 {w mb rb X} (h : XAt w mb rb X) : w.cell? ⟨mb, 62, none⟩ = some (.int .i64 X.b.time) := h.cell 62 (by omega)
theorem XAt.c63 {w mb rb X} (h : XAt w mb rb X) : w.cell? ⟨mb, 63, none⟩ = some (.int .i64 X.b.timeh) := h.cell 63 (by omega)
theorem XAt.c64 {w mb rb X} (h : XAt w mb rb X) : w.cell? ⟨mb, 64, none⟩ = some (.int .i64 X.b.cmp) := h.cell 64 (by omega)
theorem XAt.c65 {w mb rb X} (h : XAt w mb rb X) : w.cell? ⟨mb, 65, none⟩ = some (.int .i64 X.b.cmph) := h.cell 65 (by omega)
theorem XAt.c66 {w mb rb X} (h : XAt w mb rb X) : w.cell? ⟨mb, 66, none⟩ = some (.int .i64 X.b.enable) := h.cell 66 (by omega)
theorem XAt.c67 {w mb rb X} (h : XAt w mb rb X) : w.cell? ⟨mb, 67, none⟩ = some (.int .i64 X.b.scratch) := h.cell 67 (by omega)
theorem XAt.c68 {w mb rb X} (h : XAt w mb rb X) : w.cell? ⟨mb, 68, none⟩ = some (.bool X.b.lost) := h.cell 68 (by omega)
theorem XAt.c69 {w mb rb X} (h : XAt w mb rb X) : w.cell? ⟨mb, 69, none⟩ = some (.string X.b.rx) := h.cell 69 (by omega)
theorem XAt.c70 {w mb rb X} (h : XAt w mb rb X) : w.cell? ⟨mb, 70, none⟩ = some (.string X.b.tx) := h.cell 70 (by omega)
theorem setCells_size (b : Nat) : ∀ (vs : List Value) (o : Nat) (w : World), (w.setCells b o vs).heap.size = w.heap.size
 | [], o, w => rfl
 | v :: vs, o, w => by rw [World.setCells, setCells_size b vs]; simp [World.setCell]
theorem XAt.setCs {w : World} {mb rb : Nat} {X X' : XS} (h : XAt w mb rb X) (k : Nat) (vs : List Value) (e : xL rb X' = (xL rb X).take k ++ vs ++ (xL rb X).drop (k + vs.length)) (hk : k + vs.length <= 71) (er : X'.b.ram = X.b.ram) : XAt (w.setCells mb k vs) mb rb X' := by
 have hl := xL_len rb X
 refine ⟨fun j hj => ?_, ?_, ?_, ?_, ?_, ?_, h.ne⟩
 . rw [e]
   by_cases h1 : j < k
   . rw [World.cell?_setCells_out mb vs k w _ (fun _ _ => .inl h1), h.cell j hj, List.append_assoc, List.getElem?_append_left (by simp; omega), List.getElem?_take_of_lt h1]
   by_cases h2 : j < k + vs.length
   . obtain ⟨i, rfl⟩ : ∃ i, j = k + i := ⟨j - k, by omega⟩
     have := World.cell?_setCells_in mb vs k w (fun i hi => by rw [h.cell (k + i) (by omega), List.getElem?_eq_getElem (by omega)]; rfl) i (by omega)
     rw [this, List.getElem?_append_left (by simp; omega), List.getElem?_append_right (by simp; omega), List.length_take, show k + i - min k (xL rb X).length = i by omega, List.getElem?_eq_getElem (by omega)]
   . rw [World.cell?_setCells_out mb vs k w _ (fun _ _ => .inr (by show k + vs.length <= j; omega)), h.cell j hj, List.getElem?_append_right (by simp; omega), List.getElem?_drop, List.length_append, List.length_take]
     congr 1
     omega
 . intro o; rw [World.frozen?_setCells]; exact h.fro o
 . rw [setCells_size]; exact h.lt
 . intro j hj
   have hj' : j < X.b.ram.length := by rw [<- er]; exact hj
   have hc := h.ram j hj'
   have : X'.b.ram[j] = X.b.ram[j] := by congr 1
   rw [this, <- hc]
   exact World.cell?_setCells_out mb vs k w _ (fun e _ => absurd e.symm h.ne)
 . intro o; rw [World.frozen?_setCells]; exact h.rfro o
 . rw [setCells_size]; exact h.rlt
theorem Kept.setCs {F : List Nat} {a : World} (b : Nat) (hb : b ∈ F \/ a.heap.size <= b) : ∀ (vs : List Value) (o : Nat) (w : World), Kept F a w -> Kept F a (w.setCells b o vs)
 | [], o, w, h => h
 | v :: vs, o, w, h => Kept.setCs b hb vs (o + 1) _ (h.setCell hb v)
theorem XAt.there' {w mb rb X} (h : XAt w mb rb X) (k n : Nat) (hk : k + n <= 71) : w.there mb k n := fun j hj => ⟨by rw [h.cell (k + j) (by omega), List.getElem?_eq_getElem (by rw [xL_len]; omega)]; rfl, h.fro _⟩
theorem XAt.range {w mb rb X} (h : XAt w mb rb X) : w.rangeAt mb 0 (xL rb X) := fun j v hv => by
 have hj := (List.getElem?_eq_some_iff.1 hv).1
 rw [xL_len] at hj
 rw [Nat.zero_add, h.cell j hj, hv]
theorem xL_reg (rb : Nat) (X : XS) (i : Nat) (hi : i < 32) : (xL rb X)[1 + i]? = some (.int .i64 (X.x.getD i 0)) := by
 have h : i = 0 \/ i = 1 \/ i = 2 \/ i = 3 \/ i = 4 \/ i = 5 \/ i = 6 \/ i = 7 \/ i = 8 \/ i = 9 \/ i = 10 \/ i = 11 \/ i = 12 \/ i = 13 \/ i = 14 \/ i = 15 \/ i = 16 \/ i = 17 \/ i = 18 \/ i = 19 \/ i = 20 \/ i = 21 \/ i = 22 \/ i = 23 \/ i = 24 \/ i = 25 \/ i = 26 \/ i = 27 \/ i = 28 \/ i = 29 \/ i = 30 \/ i = 31 := by omega
 exact zq223
theorem XAt.reg {w mb rb X} (h : XAt w mb rb X) (i : Nat) (hi : i < 32) : w.cell? ⟨mb, 1 + i, none⟩ = some (.int .i64 (X.x.getD i 0)) := (h.cell (1 + i) (by omega)).trans (xL_reg rb X i hi)
theorem getD_set32 (l : List Nat) (i j v : Nat) (hl : l.length = 32) (hi : i < 32) : (l.set i v).getD j 0 = if j = i then v else l.getD j 0 := by
 simp only [List.getD_eq_getElem?_getD]
 by_cases h : j = i
 . subst h; rw [if_pos rfl, List.getElem?_set_self (by omega)]; rfl
 . rw [if_neg h, List.getElem?_set_ne (fun e => h e.symm)]
theorem xL_setReg (rb : Nat) (X : XS) (i v : Nat) (hl : X.x.length = 32) (hi : i < 32) : xL rb { X with x := X.x.set i v } = (xL rb X).set (1 + i) (.int .i64 (v : Int)) := by
 have h : i = 0 \/ i = 1 \/ i = 2 \/ i = 3 \/ i = 4 \/ i = 5 \/ i = 6 \/ i = 7 \/ i = 8 \/ i = 9 \/ i = 10 \/ i = 11 \/ i = 12 \/ i = 13 \/ i = 14 \/ i = 15 \/ i = 16 \/ i = 17 \/ i = 18 \/ i = 19 \/ i = 20 \/ i = 21 \/ i = 22 \/ i = 23 \/ i = 24 \/ i = 25 \/ i = 26 \/ i = 27 \/ i = 28 \/ i = 29 \/ i = 30 \/ i = 31 := by omega
 have e := fun j => getD_set32 X.x i j v hl hi
 unfold xL
 simp only [e]
 exact zq223
set_option maxRecDepth 100000 in
theorem x_register (mb rb : Nat) (X : XS) (i : Nat) (hi : i < 32) (w) (hw : Hid (XAt w mb rb X)) :
 CS 39 #[.pointer (some ⟨mb, 0, none⟩), .int .i64 i] (.int .i64 (X.x.getD i 0)) w := by
 have q1 : decide ((i : Int) < 0) = false := by simp
 have q2 : decide ((32 : Int) <= i) = false := by simp; omega
 have c := hw.out.reg i hi
 go_enter func39, ntmps39
 exact zq210
def setXR (X : XS) (d v : Nat) : XS := if d = 0 then X else { X with x := X.x.set d v }
set_option maxRecDepth 100000 in
theorem x_setRegister (mb rb : Nat) (X : XS) (hx : X.x.length = 32) (i v : Nat) (hi : i < 32) (w) (hw : Hid (XAt w mb rb X)) :
 CX 197 #[.pointer (some ⟨mb, 0, none⟩), .int .i64 i, .int .i64 v] (.tuple #[]) [mb] mb rb (setXR X i v) w := by
 unfold setXR
 by_cases h0 : i = 0
 . subst h0
   rw [if_pos rfl]
   go_enter func197, ntmps197
   go_wp2_with fail
   refine bodyPost_ret (results_none rfl _ _ _) rfl ?_
   exact zq224
 . rw [if_neg h0]
   have q1 : decide ((i : Int) < 1) = false := by simp; omega
   have q2 : decide ((32 : Int) <= i) = false := by simp; omega
   have c := hw.out.reg i hi
   have f := hw.out.fro
   clear h0
   go_enter func197, ntmps197
   go_wp2_with fail
   go_end0
   exact ⟨rfl, hw.out.set (1 + i) _ (xL_setReg rb X i v hx hi) rfl (by omega), (Kept.refl _ _).setCell (.inl (by simp)) _⟩
def unresX (X : XS) : XS := { X with resd := false, resv := 0 }
theorem x_unreserve (mb rb X w) (hw : Hid (XAt w mb rb X)) :
 CX 77 #[.pointer (some ⟨mb, 0, none⟩)] (.tuple #[]) [mb] mb rb (unresX X) w := by
 have c36 := hw.out.c36
 have c37 := hw.out.c37
 have f := hw.out.fro
 go_enter func77, ntmps77
 go_wp2_with fail
 go_end0
 exact ⟨rfl, (hw.out.set (X' := { X with resd := false }) 36 _ rfl rfl (by omega)).set 37 _ rfl rfl (by omega), ((Kept.refl _ _).setCell (.inl (by simp)) _).setCell (.inl (by simp)) _⟩
theorem x_reserve (mb rb : Nat) (X : XS) (a : Nat) (w) (hw : Hid (XAt w mb rb X)) :
 CX 348 #[.pointer (some ⟨mb, 0, none⟩), .int .i64 a] (.tuple #[]) [mb] mb rb ({ X with resd := true, resv := a }) w := by
 have c36 := hw.out.c36
 have c37 := hw.out.c37
 have f := hw.out.fro
 go_enter func348, ntmps348
 go_wp2_with fail
 go_end0
 exact ⟨rfl, (hw.out.set (X' := { X with resd := true }) 36 _ rfl rfl (by omega)).set 37 _ rfl rfl (by omega), ((Kept.refl _ _).setCell (.inl (by simp)) _).setCell (.inl (by simp)) _⟩
theorem x_Pc (mb rb X w) (hw : Hid (XAt w mb rb X)) :
 CS 102 #[.pointer (some ⟨mb, 0, none⟩)] (.int .i64 X.pc) w := by
 have c := hw.out.c33
 go_enter func102, ntmps102
 exact zq210
theorem x_Mode (mb rb X w) (hw : Hid (XAt w mb rb X)) :
 CS 101 #[.pointer (some ⟨mb, 0, none⟩)] (.int .i64 X.mode) w := by
 have c := hw.out.c34
 go_enter func101, ntmps101
 exact zq210
theorem x_Size (mb rb X w) (hw : Hid (XAt w mb rb X)) :
 CS 110 #[.pointer (some ⟨mb, 0, none⟩)] (.int .i64 (X.b.ram.length : Nat)) w := by
 have c := hw.out.c0
 go_enter func110, ntmps110
 exact zq210
theorem x_isRam (mb rb : Nat) (X : XS) (hL : X.b.ram.length <= 65536) (pa n : Int) (hp0 : -1099511627776 <= pa) (hp1 : pa <= 1099511627776) (hn0 : 1 <= n) (hn1 : n <= 4) (w) (hw : Hid (XAt w mb rb X)) :
 CS 261 #[.pointer (some ⟨mb, 0, none⟩), .int .i64 pa, .int .i64 n] (.bool (holdsD pa n X.b.ram.length)) w := by
 have c0 := hw.out.c0
 obtain ⟨L, hLL⟩ := zn1 (X.b.ram.length)
 rw [<- hLL] at c0 hL |-
 obtain ⟨T, hT⟩ := zn1 (holdsD pa n L)
 rw [<- hT]
 unfold holdsD at hT
 have HT := hide1 hT
 clear hT hLL
 go_enter func261, ntmps261
 exact zq217
theorem x_none (c t : Int) (w : World) :
 Calls prog 82 #[.agg #[.int .i64 c, .int .i64 t]] w fun e w' => e = .returned (.bool (c == -1)) /\ w' = w.alloc (.cells #[.int .i64 c, .int .i64 t] 118) := by
 go_enter func82, ntmps82
 exact zq210
theorem x_fine (w : World) :
 Calls prog 198 #[] w fun e w' => e = .returned (.agg #[.int .i64 (-1), .int .i64 0]) /\ w' = w.alloc (.cells #[.int .i64 (-1), .int .i64 0] 118) := by
 go_enter func198, ntmps198
 go_wp2_with fail
 exact bodyPost_ret (v := .agg #[.int .i64 (-1), .int .i64 0]) (by simp [results, results198, go_sem]) rfl ⟨rfl, rfl⟩
theorem x_atLeast (a b c d : Nat) (w : World) :
 Calls prog 256 #[.agg #[.int .i64 a, .int .i64 b], .agg #[.int .i64 c, .int .i64 d]] w fun e w' => e = .returned (.bool (decide (d < b \/ b = d /\ c <= a))) /\ w' = (w.alloc (.cells #[.int .i64 a, .int .i64 b] 69)).alloc (.cells #[.int .i64 c, .int .i64 d] 69) := by
 obtain ⟨T, hT⟩ := zn1 (decide (d < b \/ b = d /\ c <= a))
 rw [<- hT]
 by_cases h : d < b
 . have q : decide ((d : Int) < b) = true := by simp; exact h
   have q' : decide (d < b) = true := by simp; exact h
   have HT : Hid (T = true) := by rw [hT]; show _ = _; simp [h]
   clear hT h
   exact zq225
 . have q : decide ((d : Int) < b) = false := by simp; omega
   have q' : decide (d < b) = false := by simp; omega
   by_cases h2 : b = d
   . subst h2
     have HT : Hid (T = decide (c <= a)) := by rw [hT]; show _ = _; simp
     clear hT h
     go_enter func256, ntmps256
     go_wp2_with fail
     all_goals (go_ret; exact ⟨by rw [HT.out]; first | rfl | (simp [*]), rfl⟩)
   . have q2 : ((b : Int) == d) = false := by simp; omega
     have q2' : (b == d) = false := by simp; omega
     have HT : Hid (T = false) := by rw [hT]; show _ = _; simp [h, h2]
     clear hT h h2
     exact zq225
theorem iwrap (z : Int) : IntKind.i64.wrap z = wrap64 z := by rw [IntKind.wrap_i64]; unfold wrap64; omega
theorem plus_lo (a n : Nat) : (wordN ((a : Int) + n) : Int) = ((a + n) % 4294967296 : Nat) := by unfold wordN; omega
theorem plus_hi (a b n : Nat) : (wordN (IntKind.i64.wrap ((b : Int) + ((a : Int) + n) / 4294967296)) : Int) = ((b + (a + n) / 4294967296) % 4294967296 : Nat) := by rw [iwrap, wordN_wrap]; unfold wordN; omega
theorem x_plus (a b n : Nat) (ha : a < 4294967296) (hb : b < 4294967296) (hn : n < 4294967296) (w : World) :
 CK 85 #[.agg #[.int .i64 a, .int .i64 b], .int .i64 n] (.agg #[.int .i64 ((a + n) % 4294967296 : Nat), .int .i64 ((b + (a + n) / 4294967296) % 4294967296 : Nat)]) w := by
 rw [<- plus_lo, <- plus_hi]
 go_enter func85, ntmps85
 go_upto_region 2 with fail
 go_region_with (go_at_call 135; refine (x_word _ _).mono ?_; rintro e w1 ⟨rfl, rfl⟩)
 all_goals
  go_wp2_with fail
  exact bodyPost_ret (v := .agg #[.int .i64 (wordN ((a : Int) + n)), .int .i64 (wordN (IntKind.i64.wrap ((b : Int) + ((a : Int) + n) / 4294967296)))]) (by simp [results, results85, go_sem]) rfl ⟨rfl, by repeat (first | exact Kept.refl _ _ | refine Kept.drew ?_ | refine Kept.alloc ?_ _)⟩
section
attribute [local go_sem ↓] Go.wp_at_zero Go.wp_at_succ
def tmrA (B : BusS) : Value := .agg #[.int .i64 B.msip, .int .i64 B.time, .int .i64 B.timeh, .int .i64 B.cmp, .int .i64 B.cmph]
def prtA (B : BusS) : Value := .agg #[.int .i64 B.enable, .int .i64 B.scratch, .bool B.lost, .string B.rx, .string B.tx]
theorem mti_eq (B : BusS) : decide (B.cmph < B.timeh \/ B.timeh = B.cmph /\ B.cmp <= B.time) = mtipD B := by
 unfold mtipD
 by_cases h : B.cmph < B.timeh <;> by_cases h2 : B.timeh = B.cmph <;> simp [h, h2]
def tlnD (B : BusS) : Nat := B.msip * 8 ||| (mtipD B).toNat * 128
theorem x_tlines (B : BusS) (hB : BusOk B) (w : World) :
 CK 185 #[tmrA B] (.int .i64 (tlnD B)) w := by
 have l0 := hB.msip
 have q : bits .or .i64 ((B.msip : Int) * 8) (((mtipD B).toNat : Int) * 128) = (tlnD B : Int) := by
  have := b_or (B.msip * 8) ((mtipD B).toNat * 128) (by omega) (by cases mtipD B <;> decide)
  simpa [tlnD] using this
 have AL := fun w => hide1 (x_atLeast B.time B.timeh B.cmp B.cmph w)
 simp only [mti_eq] at AL
 obtain ⟨b, hb⟩ := zn1 (mtipD B)
 obtain ⟨T, hT⟩ := zn1 (tlnD B)
 rw [<- hb] at AL q
 rw [<- hT] at q |-
 clear hb hT
 unfold tmrA
 have l1 : b.toNat < 2 := by cases b <;> decide
 have w1 : IntKind.i64.wrap ((B.msip : Int) * 8) = (B.msip : Int) * 8 := zq9
 have w2 : IntKind.i64.wrap ((b.toNat : Int) * 128) = (b.toNat : Int) * 128 := zq9
 go_enter func185, ntmps185
 go_upto_region 1 with fail
 go_region_held3 (fun w' => w'.cell? ⟨w.heap.size, 0, none⟩ = some (.int .i64 B.msip) /\ w'.cell? ⟨w.heap.size, 1, none⟩ = some (.int .i64 B.time) /\ w'.cell? ⟨w.heap.size, 2, none⟩ = some (.int .i64 B.timeh) /\ w'.cell? ⟨w.heap.size, 3, none⟩ = some (.int .i64 B.cmp) /\ w'.cell? ⟨w.heap.size, 4, none⟩ = some (.int .i64 B.cmph)) (go_keep) (first | (go_at_call 256; refine (AL _).out.mono ?_; rintro e w1 ⟨rfl, rfl⟩) | (go_at_call 255; refine (x_oneIf _ _).mono ?_; rintro e w1 ⟨rfl, rfl⟩))
 all_goals
  go_wp2_with fail
  go_ret
  refine ⟨?_, ?_⟩
  . simp only [Act.put]; simp [q]
  . exact zq226
def trdD (B : BusS) (a : Int) : Nat := if a = 0 then B.msip else if a = 16384 then B.cmp else if a = 16388 then B.cmph else if a = 49144 then B.time else if a = 49148 then B.timeh else 0
theorem x_tread (B : BusS) (a : Int) (w : World) :
 CK 341 #[tmrA B, .int .i64 a] (.int .i64 (trdD B a)) w := by
 obtain ⟨T, hT⟩ := zn1 (trdD B a)
 rw [<- hT]
 unfold trdD at hT
 have HT := hide1 hT
 clear hT
 unfold tmrA
 go_enter func341, ntmps341
 go_wp2_with fail
 all_goals (go_ret; refine ⟨ret_intE ?_, (Kept.refl _ _).alloc _⟩; rw [HT.out]; simp_all)
def twrB (B : BusS) (a : Int) (v : Nat) : BusS := if a = 0 then { B with msip := v % 2 } else if a = 16384 then { B with cmp := v } else if a = 16388 then { B with cmph := v } else if a = 49144 then { B with time := v } else if a = 49148 then { B with timeh := v } else B
theorem x_twritten (B : BusS) (a : Int) (v : Nat) (w : World) :
 CK 344 #[tmrA B, .int .i64 a, .int .i64 v] (tmrA (twrB B a v)) w := by
 have q : bits .and .i64 (v : Int) 1 = ((v % 2 : Nat) : Int) := by rw [and_one]; simp
 by_cases h0 : a = 0
 . subst h0
   rw [show twrB B 0 v = { B with msip := v % 2 } from rfl]
   unfold tmrA
   go_enter func344, ntmps344
   go_wp2_with fail
   exact bodyPost_ret (v := tmrA { B with msip := v % 2 }) zq490 rfl ⟨rfl, by repeat (first | exact Kept.refl _ _ | refine Kept.drew ?_ | refine Kept.alloc ?_ _)⟩
 have q0 : (a == 0) = false := by simp [h0]
 by_cases h1 : a = 16384
 . subst h1
   rw [show twrB B 16384 v = { B with cmp := v } from rfl]
   unfold tmrA
   go_enter func344, ntmps344
   go_wp2_with fail
   exact bodyPost_ret (v := tmrA { B with cmp := v }) zq490 rfl ⟨rfl, by repeat (first | exact Kept.refl _ _ | refine Kept.drew ?_ | refine Kept.alloc ?_ _)⟩
 have q1 : (a == 16384) = false := by simp [h1]
 by_cases h2 : a = 16388
 . subst h2
   rw [show twrB B 16388 v = { B with cmph := v } from rfl]
   unfold tmrA
   go_enter func344, ntmps344
   go_wp2_with fail
   exact bodyPost_ret (v := tmrA { B with cmph := v }) zq490 rfl ⟨rfl, by repeat (first | exact Kept.refl _ _ | refine Kept.drew ?_ | refine Kept.alloc ?_ _)⟩
 have q2 : (a == 16388) = false := by simp [h2]
 by_cases h3 : a = 49144
 . subst h3
   rw [show twrB B 49144 v = { B with time := v } from rfl]
   unfold tmrA
   go_enter func344, ntmps344
   go_wp2_with fail
   exact bodyPost_ret (v := tmrA { B with time := v }) zq490 rfl ⟨rfl, by repeat (first | exact Kept.refl _ _ | refine Kept.drew ?_ | refine Kept.alloc ?_ _)⟩
 have q3 : (a == 49144) = false := by simp [h3]
 by_cases h4 : a = 49148
 . subst h4
   rw [show twrB B 49148 v = { B with timeh := v } from rfl]
   unfold tmrA
   go_enter func344, ntmps344
   go_wp2_with fail
   exact bodyPost_ret (v := tmrA { B with timeh := v }) zq490 rfl ⟨rfl, by repeat (first | exact Kept.refl _ _ | refine Kept.drew ?_ | refine Kept.alloc ?_ _)⟩
 have q4 : (a == 49148) = false := by simp [h4]
 rw [show twrB B a v = B by simp [twrB, h0, h1, h2, h3, h4]]
 clear h0 h1 h2 h3 h4
 unfold tmrA
 go_enter func344, ntmps344
 go_wp2_with fail
 exact bodyPost_ret (v := tmrA B) zq490 rfl ⟨rfl, by repeat (first | exact Kept.refl _ _ | refine Kept.drew ?_ | refine Kept.alloc ?_ _)⟩
theorem x_hasRoom (B : BusS) (w : World) :
 Calls prog 330 #[prtA B] w fun e w' => e = .returned (.bool (decide (B.tx.size < 8))) /\ w' = w.alloc (.cells #[.int .i64 B.enable, .int .i64 B.scratch, .bool B.lost, .string B.rx, .string B.tx] 75) := by
 obtain ⟨R, hR⟩ := zn2 (decide ((B.tx.size : Int) < 8))
 have HR : Hid (decide (B.tx.size < 8) = R) := by show _ = _; rw [<- hR, Bool.eq_iff_iff]; simp; omega
 unfold prtA
 go_enter func330, ntmps330
 go_wp2_with fail
 go_ret
 exact ⟨by rw [HR.out] <;> first | rfl | (rw [<- hR]; rfl), rfl⟩
theorem bit_of3 (e : Nat) (he : e < 8) : (bits .and .i64 (e : Int) 4 != 0) = decide (e / 4 % 2 = 1) /\ (bits .and .i64 (e : Int) 1 != 0) = decide (e % 2 = 1) /\ (bits .and .i64 (e : Int) 2 != 0) = decide (e / 2 % 2 = 1) := by
 have h : e = 0 \/ e = 1 \/ e = 2 \/ e = 3 \/ e = 4 \/ e = 5 \/ e = 6 \/ e = 7 := by omega
 rcases h with rfl | rfl | rfl | rfl | rfl | rfl | rfl | rfl <;> exact ⟨by decide, by decide, by decide⟩
theorem rx_empty (s : ByteArray) : s.toList.isEmpty = !decide (0 < s.size) := by
 have e : s.size = s.data.toList.length := rfl
 rw [ByteArray.toList_eq, e]
 cases s.data.toList <;> simp
theorem x_pwhy (B : BusS) (hE : B.enable < 8) (w : World) :
 CK 257 #[prtA B] (.int .i64 (whyD B)) w := by
 obtain ⟨q4, q1, q2⟩ := bit_of3 B.enable hE
 have HH := fun w => hide1 (x_hasRoom B w)
 obtain ⟨T, hT⟩ := zn1 (whyD B)
 rw [<- hT]
 unfold whyD at hT
 obtain ⟨b4, h4⟩ := zn1 (decide (B.enable / 4 % 2 = 1))
 obtain ⟨b1, h1⟩ := zn1 (decide (B.enable % 2 = 1))
 obtain ⟨b2, h2⟩ := zn1 (decide (B.enable / 2 % 2 = 1))
 obtain ⟨bR, hR⟩ := zn1 (decide (0 < B.rx.size))
 obtain ⟨bM, hM⟩ := zn1 (decide (B.tx.size < 8))
 rw [<- h4] at q4 hT
 rw [<- h1] at q1 hT
 rw [<- h2] at q2 hT
 rw [<- hR] at hT
 rw [<- hM] at hT
 simp only [<- hM] at HH
 unfold prtA at HH |-
 clear h4 h1 h2 hM
 obtain ⟨bl, hl⟩ := zn1 (B.lost)
 rw [<- hl] at hT HH |-
 clear hl
 obtain ⟨E, tx, rx, sc, h5⟩ : ∃ E tx rx sc, E = B.enable /\ tx = B.tx /\ rx = B.rx /\ sc = B.scratch := ⟨_, _, _, _, rfl, rfl, rfl, rfl⟩
 obtain ⟨e1, e2, e3, e4⟩ := h5
 simp only [<- e1, <- e2, <- e3, <- e4] at HH q4 q1 q2 hR |-
 have hs : rx.toList.isEmpty = !bR := by rw [hR]; exact rx_empty rx
 clear e1 e2 e3 e4 hE hR
 cases b4 <;> cases bl <;> cases b1 <;> cases bR <;> cases b2
 all_goals
  have HT := hide1 hT
  clear hT
  go_enter func257, ntmps257
  go_wp2_with (go_at_call 330; refine (HH _).out.mono ?_; rintro e w1 ⟨rfl, rfl⟩)
  all_goals (go_ret; refine ⟨ret_intE (by rw [HT.out]; simp_all), ?_⟩)
  all_goals (repeat (first | exact Kept.refl _ _ | refine Kept.drew ?_ | refine Kept.alloc ?_ _))
theorem wrap_small (n : Int) (h0 : -9223372036854775808 <= n) (h1 : n <= 9223372036854775807) : wrap64 n = n := by unfold wrap64; omega
theorem x_statD (B : BusS) : statD B = (decide (0 < B.rx.size)).toNat + 2 * B.lost.toNat + 32 * (decide (B.tx.size < 8)).toNat + 64 * (!decide (0 < B.tx.size)).toNat := by
 unfold statD
 have e : decide (B.tx.size = 0) = !decide (0 < B.tx.size) := by by_cases h : B.tx.size = 0 <;> simp [h]; omega
 rw [e]
 cases decide (0 < B.rx.size) <;> cases B.lost <;> cases decide (B.tx.size < 8) <;> cases decide (0 < B.tx.size) <;> rfl
theorem x_pstatus (B : BusS) (w : World) :
 CK 379 #[prtA B] (.int .i64 (statD B)) w := by
 have HH := fun w => hide1 (x_hasRoom B w)
 rw [x_statD]
 obtain ⟨bR, hR⟩ := zn1 (decide (0 < B.rx.size))
 obtain ⟨bM, hM⟩ := zn1 (decide (B.tx.size < 8))
 obtain ⟨bT, hT⟩ := zn1 (decide (0 < B.tx.size))
 simp only [<- hM] at HH
 rw [<- hR, <- hM, <- hT]
 unfold prtA at HH |-
 obtain ⟨E, tx, rx, sc, lo, h5⟩ : ∃ E tx rx sc lo, E = B.enable /\ tx = B.tx /\ rx = B.rx /\ sc = B.scratch /\ lo = B.lost := ⟨_, _, _, _, _, rfl, rfl, rfl, rfl, rfl⟩
 obtain ⟨e1, e2, e3, e4, e5⟩ := h5
 simp only [<- e1, <- e2, <- e3, <- e4, <- e5] at HH hR hT |-
 have hs : rx.toList.isEmpty = !bR := by rw [hR]; exact rx_empty rx
 have hs2 : tx.toList.isEmpty = !bT := by rw [hT]; exact rx_empty tx
 clear e1 e2 e3 e4 e5 hR hT hM
 have l1 : bR.toNat < 2 := by cases bR <;> decide
 have l2 : bM.toNat < 2 := by cases bM <;> decide
 have l3 : lo.toNat < 2 := by cases lo <;> decide
 have l4 : (!bT).toNat < 2 := by cases bT <;> decide
 go_enter func379, ntmps379
 go_upto_region 1 with fail
 go_region_held3 (fun w' => w'.cell? ⟨w.heap.size, 0, none⟩ = some (.int .i64 E) /\ w'.cell? ⟨w.heap.size, 1, none⟩ = some (.int .i64 sc) /\ w'.cell? ⟨w.heap.size, 2, none⟩ = some (.bool lo) /\ w'.cell? ⟨w.heap.size, 3, none⟩ = some (.string rx) /\ w'.cell? ⟨w.heap.size, 4, none⟩ = some (.string tx)) (go_keep) (first | (go_at_call 330; refine (HH _).out.mono ?_; rintro e w1 ⟨rfl, rfl⟩) | (go_at_call 255; refine (x_oneIf _ _).mono ?_; rintro e w1 ⟨rfl, rfl⟩))
 all_goals
  go_wp2_with fail
  go_ret
  refine ⟨?_, ?_⟩
  . cases bR <;> cases lo <;> cases bM <;> cases bT <;> rfl
  . exact zq226
theorem alloc_ne (w : World) (o : Obj) (b k : Nat) (h : ¬ b = w.heap.size) : (w.alloc o).cell? ⟨b, k, none⟩ = w.cell? ⟨b, k, none⟩ := by
 by_cases hb : b < w.heap.size
 . exact ((Kept.refl [] w).alloc o).cell (p := ⟨b, k, none⟩) hb (by simp)
 . simp only [World.cell?, World.alloc]
   rw [Array.getElem?_push, if_neg h]
theorem Below.box {W w1 : World} (hb : Below W.heap.size W w1) (b : Nat) (hlt : b < W.heap.size) : (∀ o, w1.cell? ⟨b, o, none⟩ = W.cell? ⟨b, o, none⟩) /\ (∀ o, w1.frozen? ⟨b, o, none⟩ = W.frozen? ⟨b, o, none⟩) :=
 ⟨fun o => hb.cell (p := ⟨b, o, none⟩) hlt, fun o => hb.frozen (p := ⟨b, o, none⟩) hlt⟩
theorem Kept.box {W w1 : World} {F : List Nat} (hb : Kept F W w1) (b : Nat) (hlt : b < W.heap.size) (hn : b ∉ F) : (∀ o, w1.cell? ⟨b, o, none⟩ = W.cell? ⟨b, o, none⟩) /\ (∀ o, w1.frozen? ⟨b, o, none⟩ = W.frozen? ⟨b, o, none⟩) :=
 ⟨fun o => hb.cell (p := ⟨b, o, none⟩) hlt hn, fun o => hb.frozen (p := ⟨b, o, none⟩) hlt hn⟩
def plnD (B : BusS) : Nat := if whyD B = 1 then 0 else 2560
theorem x_plines (B : BusS) (hE : B.enable < 8) (w : World) :
 CK 186 #[prtA B] (.int .i64 (plnD B)) w := by
 have HY := fun w => hide1 (x_pwhy B hE w)
 obtain ⟨T, hT⟩ := zn1 (plnD B)
 rw [<- hT]
 unfold plnD at hT
 obtain ⟨y, hy⟩ := zn1 (whyD B)
 simp only [<- hy] at HY hT
 clear hy
 unfold prtA at HY |-
 by_cases h : y = 1
 . subst h
   have HT := hide1 hT
   clear hT
   exact zq227
 . have HT : Hid (T = 2560) := by rw [hT]; show _ = _; simp [h]
   have q : ((y : Int) != 1) = true := by simp; omega
   clear hT h
   exact zq227
def arrB (B : BusS) (b : Int) : BusS := if B.rx.size < 4 then { B with rx := B.rx ++ strOfNums (leL b 1) } else { B with lost := true }
theorem x_arrived (B : BusS) (hr : B.rx.size <= 4) (b : Int) (w : World) :
 CK 116 #[prtA B, .int .i64 b] (prtA (arrB B b)) w := by
 by_cases h : B.rx.size < 4
 . rw [show arrB B b = { B with rx := B.rx ++ strOfNums (leL b 1) } by unfold arrB; rw [if_pos h]]
   unfold prtA
   dsimp only
   obtain ⟨E, tx, rx, sc, lo, h5⟩ : ∃ E tx rx sc lo, E = B.enable /\ tx = B.tx /\ rx = B.rx /\ sc = B.scratch /\ lo = B.lost := ⟨_, _, _, _, _, rfl, rfl, rfl, rfl, rfl⟩
   obtain ⟨e1, e2, e3, e4, e5⟩ := h5
   simp only [<- e1, <- e2, <- e3, <- e4, <- e5] at h hr |-
   have q : decide ((4 : Int) <= rx.size) = false := by simp; omega
   have L : ∀ W, Hid (CB 147 #[.int .i64 b, .int .i64 1] (.string (strOfNums (leL b 1))) W) := fun W => hide1 (a_Le b 1 (by decide) W)
   obtain ⟨S, hS⟩ := zn1 (strOfNums (leL b 1))
   simp only [<- hS] at L |-
   have hl : S.size = 1 := by rw [hS, strNumsR_size, leLR_length]
   obtain ⟨c, hc, hcs, ha⟩ := add_in rx S (by omega)
   rw [<- hc]
   clear e1 e2 e3 e4 e5 h hS hc
   go_enter func116, ntmps116
   go_upto_region 4 with fail
   go_region_with (first | (go_at_call 147; refine (L _).out.mono ?_; rintro e w1 ⟨rfl, hb1⟩; obtain ⟨k0, f0⟩ := Below.box hb1 w.heap.size zq491; obtain ⟨k1, f1⟩ := Below.box hb1 (w.heap.size + 1) zq491))
   all_goals
    go_wp2_with fail
    exact bodyPost_ret (v := .agg #[.int .i64 E, .int .i64 sc, .bool lo, .string c, .string tx]) (by simp [results, results116, go_sem, k1]) rfl ⟨rfl, zq492⟩
 . rw [show arrB B b = { B with lost := true } by unfold arrB; rw [if_neg h]]
   have q : decide ((4 : Int) <= B.rx.size) = true := by simp; omega
   unfold prtA
   dsimp only
   go_enter func116, ntmps116
   go_wp2_with fail
   exact bodyPost_ret (v := .agg #[.int .i64 B.enable, .int .i64 B.scratch, .bool true, .string B.rx, .string B.tx]) (by simp [results, results116, go_sem]) rfl ⟨rfl, zq493⟩
def pwrB (B : BusS) (a : Int) (b : Nat) : BusS := if a = 0 then (if B.tx.size < 8 then { B with tx := B.tx ++ strOfNums (leL b 1) } else B) else if a = 1 then { B with enable := b % 8 } else if a = 7 then { B with scratch := b } else B
theorem and7 (b : Nat) : bits .and .i64 (b : Int) 7 = ((b % 8 : Nat) : Int) := by
 have := and_mask (b : Int) 3 (by decide)
 have e : ((2 : Int) ^ 3) = 8 := by decide
 have e2 : ((2 ^ 3 - 1 : Nat) : Int) = 7 := by decide
 exact zq212
theorem x_pwritten (B : BusS) (hr : B.tx.size <= 8) (a : Int) (b : Nat) (w : World) :
 CK 345 #[prtA B, .int .i64 a, .int .i64 b] (prtA (pwrB B a b)) w := by
 by_cases h0 : a = 0
 . subst h0
   have HH := fun w => hide1 (x_hasRoom B w)
   by_cases h : B.tx.size < 8
   . rw [show pwrB B 0 b = { B with tx := B.tx ++ strOfNums (leL b 1) } by unfold pwrB; rw [if_pos rfl, if_pos h]]
     rw [decide_eq_true h] at HH
     unfold prtA at HH |-
     dsimp only at HH |-
     obtain ⟨E, tx, rx, sc, lo, h5⟩ : ∃ E tx rx sc lo, E = B.enable /\ tx = B.tx /\ rx = B.rx /\ sc = B.scratch /\ lo = B.lost := ⟨_, _, _, _, _, rfl, rfl, rfl, rfl, rfl⟩
     obtain ⟨e1, e2, e3, e4, e5⟩ := h5
     simp only [<- e1, <- e2, <- e3, <- e4, <- e5] at h hr HH |-
     have L : ∀ W, Hid (CB 147 #[.int .i64 b, .int .i64 1] (.string (strOfNums (leL b 1))) W) := fun W => hide1 (a_Le b 1 (by decide) W)
     obtain ⟨S, hS⟩ := zn1 (strOfNums (leL b 1))
     simp only [<- hS] at L |-
     have hl : S.size = 1 := by rw [hS, strNumsR_size, leLR_length]
     obtain ⟨c, hc, hcs, ha⟩ := add_in tx S (by omega)
     rw [<- hc]
     clear e1 e2 e3 e4 e5 h hS hc
     go_enter func345, ntmps345
     go_upto_region 4 with (go_at_call 330; refine (HH _).out.mono ?_; rintro e w1 ⟨rfl, rfl⟩)
     go_region_with (first | (go_at_call 147; refine (L _).out.mono ?_; rintro e w1 ⟨rfl, hb1⟩; obtain ⟨k0, f0⟩ := Below.box hb1 w.heap.size zq491; obtain ⟨k1, f1⟩ := Below.box hb1 (w.heap.size + 1) zq491; have p0 : w1.cell? ⟨w.heap.size, 0, none⟩ = some (.int .i64 E) := (k0 0).trans zq494; have p1 : w1.cell? ⟨w.heap.size, 1, none⟩ = some (.int .i64 sc) := (k0 1).trans zq494; have p2 : w1.cell? ⟨w.heap.size, 2, none⟩ = some (.bool lo) := (k0 2).trans zq494; have p3 : w1.cell? ⟨w.heap.size, 3, none⟩ = some (.string rx) := (k0 3).trans zq494; have p4 : w1.cell? ⟨w.heap.size, 4, none⟩ = some (.string tx) := (k0 4).trans zq494; clear k0))
     all_goals
      go_wp2_with fail
      exact bodyPost_ret (v := .agg #[.int .i64 E, .int .i64 sc, .bool lo, .string rx, .string c]) (by simp [results, results345, go_sem, k1]) rfl ⟨rfl, zq492⟩
   . rw [show pwrB B 0 b = B by unfold pwrB; rw [if_pos rfl, if_neg h]]
     rw [decide_eq_false h] at HH
     unfold prtA at HH |-
     go_enter func345, ntmps345
     go_wp2_with (go_at_call 330; refine (HH _).out.mono ?_; rintro e w1 ⟨rfl, rfl⟩)
     exact zq228
 have q0 : (a == 0) = false := by simp [h0]
 by_cases h1 : a = 1
 . subst h1
   have q := and7 b
   rw [show pwrB B 1 b = { B with enable := b % 8 } from rfl]
   unfold prtA
   dsimp only
   go_enter func345, ntmps345
   go_wp2_with fail
   exact bodyPost_ret (v := .agg #[.int .i64 ((b % 8 : Nat) : Int), .int .i64 B.scratch, .bool B.lost, .string B.rx, .string B.tx]) zq495 rfl ⟨rfl, zq493⟩
 have q1 : (a == 1) = false := by simp [h1]
 by_cases h7 : a = 7
 . subst h7
   rw [show pwrB B 7 b = { B with scratch := b } from rfl]
   unfold prtA
   dsimp only
   go_enter func345, ntmps345
   go_wp2_with fail
   exact bodyPost_ret (v := .agg #[.int .i64 B.enable, .int .i64 b, .bool B.lost, .string B.rx, .string B.tx]) zq495 rfl ⟨rfl, zq493⟩
 have q7 : (a == 7) = false := by simp [h7]
 rw [show pwrB B a b = B by unfold pwrB; rw [if_neg h0, if_neg h1, if_neg h7]]
 clear h0 h1 h7
 unfold prtA
 go_enter func345, ntmps345
 go_wp2_with fail
 exact zq228
def prdB (B : BusS) (a : Int) : Nat × BusS :=
 if a = 0 then (if h : 0 < B.rx.size then (B.rx[0].toNat, { B with rx := B.rx.extract 1 B.rx.size }) else (0, B))
 else if a = 1 then (B.enable, B) else if a = 2 then (whyD B, B) else if a = 5 then (statD B, { B with lost := false }) else if a = 7 then (B.scratch, B) else (0, B)
theorem x_pread_en (B : BusS) (hE : B.enable < 8) (w : World) :
 CK 343 #[prtA B, .int .i64 1] (.tuple #[.int .i64 B.enable, prtA B]) w := by
 unfold prtA
 try dsimp only
 go_enter func343, ntmps343
 go_upto_region 9 with fail
 go_region_with fail
 all_goals
  go_wp2_with fail
  exact bodyPost_ret (v := .tuple #[.int .i64 B.enable, .agg #[.int .i64 B.enable, .int .i64 B.scratch, .bool B.lost, .string B.rx, .string B.tx]]) zq496 rfl ⟨rfl, zq493⟩
theorem x_pread_sc (B : BusS) (hE : B.enable < 8) (w : World) :
 CK 343 #[prtA B, .int .i64 7] (.tuple #[.int .i64 B.scratch, prtA B]) w := by
 unfold prtA
 try dsimp only
 go_enter func343, ntmps343
 go_upto_region 17 with fail
 go_region_with fail
 all_goals
  go_wp2_with fail
  exact bodyPost_ret (v := .tuple #[.int .i64 B.scratch, .agg #[.int .i64 B.enable, .int .i64 B.scratch, .bool B.lost, .string B.rx, .string B.tx]]) zq496 rfl ⟨rfl, zq493⟩
theorem x_pread_no (B : BusS) (hE : B.enable < 8) (a : Int) (q0 : (a == 0) = false) (q1 : (a == 1) = false) (q2 : (a == 2) = false) (q5 : (a == 5) = false) (q7 : (a == 7) = false) (w : World) :
 CK 343 #[prtA B, .int .i64 a] (.tuple #[.int .i64 0, prtA B]) w := by
 unfold prtA
 try dsimp only
 go_enter func343, ntmps343
 go_upto_region 18 with fail
 exact zq229
theorem x_pread_wy (B : BusS) (hE : B.enable < 8) (w : World) :
 CK 343 #[prtA B, .int .i64 2] (.tuple #[.int .i64 (whyD B), prtA B]) w := by
 have HY := fun w => hide1 (x_pwhy B hE w)
 obtain ⟨y, hy⟩ := zn1 (whyD B)
 simp only [<- hy] at HY |-
 clear hy
 unfold prtA at HY
 unfold prtA
 try dsimp only
 go_enter func343, ntmps343
 go_upto_region 11 with (go_at_call 257; refine (HY _).out.mono ?_; rintro e w1 ⟨rfl, hk1⟩; obtain ⟨k0, f0⟩ := hk1.box w.heap.size zq491 (by simp); obtain ⟨k1, f1⟩ := hk1.box (w.heap.size + 1) zq491 (by simp))
 go_region_with (go_at_call 257; refine (HY _).out.mono ?_; rintro e w1 ⟨rfl, hk1⟩; obtain ⟨k0, f0⟩ := hk1.box w.heap.size zq491 (by simp); obtain ⟨k1, f1⟩ := hk1.box (w.heap.size + 1) zq491 (by simp))
 all_goals
  go_wp2_with fail
  exact bodyPost_ret (v := .tuple #[.int .i64 y, .agg #[.int .i64 B.enable, .int .i64 B.scratch, .bool B.lost, .string B.rx, .string B.tx]]) (by simp [results, results343, go_sem, k1]) rfl ⟨rfl, zq497⟩
theorem x_pread_st (B : BusS) (hE : B.enable < 8) (w : World) :
 CK 343 #[prtA B, .int .i64 5] (.tuple #[.int .i64 (statD B), prtA { B with lost := false }]) w := by
 have HY := fun w => hide1 (x_pstatus B w)
 obtain ⟨y, hy⟩ := zn1 (statD B)
 simp only [<- hy] at HY |-
 clear hy
 unfold prtA at HY
 unfold prtA
 try dsimp only
 go_enter func343, ntmps343
 go_upto_region 15 with (go_at_call 379; refine (HY _).out.mono ?_; rintro e w1 ⟨rfl, hk1⟩; obtain ⟨k0, f0⟩ := hk1.box w.heap.size zq491 (by simp); obtain ⟨k1, f1⟩ := hk1.box (w.heap.size + 1) zq491 (by simp))
 go_region_with (go_at_call 379; refine (HY _).out.mono ?_; rintro e w1 ⟨rfl, hk1⟩; obtain ⟨k0, f0⟩ := hk1.box w.heap.size zq491 (by simp); obtain ⟨k1, f1⟩ := hk1.box (w.heap.size + 1) zq491 (by simp))
 all_goals
  go_wp2_with fail
  exact bodyPost_ret (v := .tuple #[.int .i64 y, .agg #[.int .i64 B.enable, .int .i64 B.scratch, .bool false, .string B.rx, .string B.tx]]) (by simp [results, results343, go_sem, k1]) rfl ⟨rfl, zq497⟩
theorem x_pread_d0 (B : BusS) (hE : B.enable < 8) (h : B.rx.size = 0) (w : World) :
 CK 343 #[prtA B, .int .i64 0] (.tuple #[.int .i64 0, prtA B]) w := by
 have hs : B.rx.toList.isEmpty = true := by rw [rx_empty, h]; rfl
 clear h
 unfold prtA
 try dsimp only
 go_enter func343, ntmps343
 go_upto_region 4 with fail
 exact zq229
theorem x_pread_d1 (B : BusS) (hr : 0 < B.rx.size) (w : World) :
 CK 343 #[prtA B, .int .i64 0] (.tuple #[.int .i64 (B.rx[0].toNat : Nat), prtA { B with rx := B.rx.extract 1 B.rx.size }]) w := by
 have hs : B.rx.toList.isEmpty = false := by rw [rx_empty, decide_eq_true hr]; rfl
 obtain ⟨X, hX⟩ := zn1 (B.rx.extract 1 B.rx.size)
 simp only [<- hX]
 have hsl : ∀ w, (Instr.slice 9 (.string B.rx) (some (.int .i64 1)) none none).run prog w = .ok (.string X) w := by
  intro w
  rw [hX, run_slice_string_from_if w 9 B.rx .i64 1 Tryz.underlying9, if_pos ⟨by omega, by omega⟩]
  simp
 have hb8 := u8_bd B.rx[0]
 obtain ⟨z, hz⟩ := zn1 (B.rx[0].toNat)
 simp only [<- hz] at hb8 |-
 have hz' : B.rx[0].toNat = z := hz.symm
 clear hz hX
 unfold prtA
 dsimp only
 go_enter func343, ntmps343
 go_upto_region 7 with fail
 go_region_with fail
 all_goals
  go_wp2_with fail
  exact bodyPost_ret (v := .tuple #[.int .i64 z, .agg #[.int .i64 B.enable, .int .i64 B.scratch, .bool B.lost, .string X, .string B.tx]]) zq496 rfl ⟨rfl, zq493⟩
theorem x_pread (B : BusS) (hE : B.enable < 8) (a : Int) (w : World) :
 CK 343 #[prtA B, .int .i64 a] (.tuple #[.int .i64 ((prdB B a).1 : Nat), prtA (prdB B a).2]) w := by
 by_cases h0 : a = 0
 . subst h0
   by_cases hr : 0 < B.rx.size
   . rw [show prdB B 0 = (B.rx[0].toNat, { B with rx := B.rx.extract 1 B.rx.size }) by unfold prdB; simp [hr]]
     exact x_pread_d1 B hr w
   . rw [show prdB B 0 = (0, B) by unfold prdB; simp [hr]]
     exact x_pread_d0 B hE (by omega) w
 by_cases h1 : a = 1
 . subst h1; exact x_pread_en B hE w
 by_cases h2 : a = 2
 . subst h2; exact x_pread_wy B hE w
 by_cases h5 : a = 5
 . subst h5; exact x_pread_st B hE w
 by_cases h7 : a = 7
 . subst h7; exact x_pread_sc B hE w
 rw [show prdB B a = (0, B) by unfold prdB; simp [h0, h1, h2, h5, h7]]
 exact x_pread_no B hE a (by simp [h0]) (by simp [h1]) (by simp [h2]) (by simp [h5]) (by simp [h7]) w
end
def XS.withB (X : XS) (B : BusS) : XS := { X with b := B }
theorem XAt.setR {w mb rb X} (h : XAt w mb rb X) (j : Nat) (hj : j < X.b.ram.length) (x : UInt8) : XAt (w.setCell ⟨rb, j, none⟩ (.int .u8 (x.toNat : Int))) mb rb { X with b := { X.b with ram := X.b.ram.set j x } } := by
 have hne := h.ne
 have hne' : ¬ rb = mb := fun e => hne e.symm
 have hf := h.fro
 have hl := h.lt
 have rf := h.rfro
 have rl := h.rlt
 have hrj := h.ram j hj
 refine ⟨fun k hk => ?_, ?_, ?_, fun k hk => ?_, ?_, ?_, hne⟩
 . have hc := h.cell k hk
   have e : (xL rb { X with b := { X.b with ram := X.b.ram.set j x } }) = xL rb X := by unfold xL; simp only [List.length_set]
   rw [e, <- hc]
   simp [go_sem, hne, hne']
 . simp [go_sem, hf]
 . simp [go_sem, hl]
 . have hk' : k < X.b.ram.length := by simpa using hk
   have hr := h.ram k hk'
   by_cases e : k = j
   . subst e; simp [go_sem, hr]
   . have e' : ¬ j = k := fun h => e h.symm
     simp [go_sem, hr, e, e', List.getElem_set]
 . simp [go_sem, rf]
 . simp [go_sem, rl]
theorem x_ramNumber_yes (mb rb : Nat) (X : XS) (hram : X.b.ram.length <= 65536) (pa : Int) (p n : Nat) (hp : pa - 2147483648 = p) (hn1 : 1 <= n) (hn4 : n <= 4) (hl : p + n <= X.b.ram.length) (w) (hw : Hid (XAt w mb rb X)) :
 CS 262 #[.pointer (some ⟨mb, 0, none⟩), .int .i64 pa, .int .i64 n] (.int .i64 (rdRam X.b p n)) w := by
 have c0 := hw.out.c0
 have hh := x_isRam mb rb X hram pa n (by omega) (by omega) (by omega) (by omega) w hw
 have ht : holdsD pa n X.b.ram.length = true := by unfold holdsD; simp; omega
 rw [ht] at hh
 have HH := hide1 hh
 clear hh ht
 unfold rdRam
 obtain ⟨S, hS⟩ := zn1 ((X.b.ram.drop p).take n)
 have hSl : S.length = n := by rw [hS, List.length_take, List.length_drop]; omega
 have hcell : ∀ k, (hk : k < n) -> w.cell? ⟨rb, p + k, none⟩ = some (.int .u8 ((S[k]'(by omega)).toNat : Int)) := by
  intro k hk
  have h := hw.out.ram (p + k) (by omega)
  have e : S[k]'(by omega) = X.b.ram[p + k]'(by omega) := by simp [hS]
  rw [h, e]
 rw [<- hS]
 have HC := hide1 hcell
 clear hS hcell
 obtain ⟨T, hT⟩ := zn1 (ldN S)
 rw [<- hT]
 have HT := hide1 hT
 have hlen : p + n <= X.b.ram.length := hl
 obtain ⟨L, hL⟩ := zn1 (X.b.ram.length)
 rw [<- hL] at c0 hram hlen
 clear hT hw hl hL
 go_enter func262, ntmps262
 go_wp2_with fail
 refine HH.out.mono ?_
 rintro e w1 ⟨rfl, rfl⟩
 clear HH
 go_wp2_with fail
 go_loop [8, 9] (fun c d => ∃ (k v : Nat), k <= n /\ v <= 4294967296 /\ c = .int .i64 v /\ d = .int .i64 ((k : Int) - 1) /\ Hid (v = ldN (S.drop k))) (fun _ d => ((intOf d) + 1).toNat)
 case atStart => exact ⟨n, 0, Nat.le_refl _, by omega, rfl, rfl, hide1 (by rw [List.drop_eq_nil_of_le (by omega)]; rfl)⟩
 case round =>
  obtain ⟨k, v, hk, hv, rfl, rfl, hg⟩ := hrel
  cases k with
  | zero =>
   have hvT : Hid (v = T) := by show v = T; rw [hg.out, HT.out]; rfl
   clear hg HT HC
   go_wp2_with fail
   go_ret
   exact ⟨by rw [hvT.out] <;> rfl, rfl⟩
  | succ k =>
   have ek : (((k + 1 : Nat) : Int) - 1) = k := by omega
   rw [ek]
   have hc := HC.out k (by omega)
   have hb := u8_bd (S[k]'(by omega))
   have hst : ldN (S.drop k) = (S[k]'(by omega)).toNat + 256 * v := by
    rw [List.drop_eq_getElem_cons (show k < S.length by omega)]
    simp only [ldN]; rw [hg.out]
   have hbd : ldN (S.drop k) <= 4294967296 := by
    have h1 := ldN_lt (S.drop k)
    have h2 : 256 ^ (S.drop k).length <= 256 ^ 4 := Nat.pow_le_pow_right (by decide) (by rw [List.length_drop]; omega)
    have h3 : 256 ^ 4 = 4294967296 := by decide
    omega
   obtain ⟨x, hx⟩ := zn1 ((S[k]'(by omega)).toNat)
   rw [<- hx] at hc hb hst
   have hgo : Hid (v * 256 + x = ldN (S.drop k)) := by show _ = _; rw [hst]; omega
   have hvx : v * 256 + x <= 4294967296 := by rw [hst] at hbd; omega
   clear hg HT hst hbd hx ek
   go_wp2_with fail
   go_round
   case rel => exact ⟨k, v * 256 + x, by omega, hvx, by go_num, by go_num, hgo⟩
   case measure => simp [intOf]
def setRam (X : XS) (r : List UInt8) : XS := { X with b := { X.b with ram := r } }
theorem x_setRamNumber_yes (mb rb : Nat) (X : XS) (hram : X.b.ram.length <= 65536) (pa : Int) (p n : Nat) (hp : pa - 2147483648 = p) (hn1 : 1 <= n) (hn4 : n <= 4) (hl : p + n <= X.b.ram.length) (v : Nat) (hv : v < 4294967296) (w) (hw : Hid (XAt w mb rb X)) :
 CX 346 #[.pointer (some ⟨mb, 0, none⟩), .int .i64 pa, .int .i64 n, .int .i64 v] (.tuple #[]) [rb] mb rb (setRam X (stN X.b.ram p n v)) w := by
 have hh := x_isRam mb rb X hram pa n (by omega) (by omega) (by omega) (by omega) w hw
 have ht : holdsD pa n X.b.ram.length = true := by unfold holdsD; simp; omega
 rw [ht] at hh
 have HH := hide1 hh
 clear hh ht
 obtain ⟨T, hT⟩ := zn1 (stN X.b.ram p n v)
 rw [<- hT]
 have HT := hide1 hT
 clear hT
 go_enter func346, ntmps346
 go_wp2_with fail
 refine HH.out.mono ?_
 rintro e w1 ⟨rfl, rfl⟩
 clear HH
 go_wp2_with fail
 go_loopw [3, 9] (fun c d wr => ∃ (i u : Nat) (R : List UInt8), i <= n /\ u < 4294967296 /\ c = .int .i64 u /\ d = .int .i64 i /\ R.length = X.b.ram.length /\ Hid (XAt wr mb rb (setRam X R)) /\ Hid (Kept [rb] w1 wr) /\ Hid (T = stN R (p + i) (n - i) u)) (fun _ d _ => n - (intOf d).toNat)
 case atStart => exact ⟨0, v, X.b.ram, by omega, hv, rfl, rfl, rfl, hw, hide1 (Kept.refl _ _), HT⟩
 case round =>
  obtain ⟨i, u, R, hi, hu, rfl, rfl, hR, hb, hk, hg⟩ := hrel
  clear HT
  by_cases hlt : i < n
  . have hlt' : decide ((i : Int) < (n : Int)) = true := by simp; omega
    have hpi : p + i < R.length := by omega
    have c0 := hb.out.c0
    simp only [setRam] at c0
    have rf := hb.out.rfro (p + i)
    have rc := hb.out.ram (p + i) hpi
    simp only [setRam] at rc
    have hset : XAt (wr.setCell ⟨rb, p + i, none⟩ (.int .u8 ((UInt8.ofNat u).toNat : Int))) mb rb (setRam X (R.set (p + i) (UInt8.ofNat u))) := hb.out.setR (p + i) hpi (UInt8.ofNat u)
    have e1 : (UInt8.ofNat u).toNat = u % 256 := by simp
    rw [e1] at hset
    have m1 : IntKind.u8.wrap (u : Int) = ((u % 256 : Nat) : Int) := by rw [IntKind.wrap_u8]; simp
    have m2 : (u : Int) % 256 = ((u % 256 : Nat) : Int) := by simp
    have d1 : (u : Int) / 256 = ((u / 256 : Nat) : Int) := by simp
    have hgo : Hid (T = stN (R.set (p + i) (UInt8.ofNat u)) (p + (i + 1)) (n - (i + 1)) (u / 256)) := by
     show T = _
     rw [hg.out, show n - i = (n - (i + 1)) + 1 by omega]; rfl
    have hu2 : u / 256 < 4294967296 := by omega
    have hx8 : u % 256 < 256 := by omega
    obtain ⟨x, hx⟩ := zn1 (u % 256)
    obtain ⟨y, hy⟩ := zn1 (u / 256)
    rw [<- hx] at hset m1 m2 hx8
    rw [<- hy] at d1 hgo hu2
    have HS := hide1 hset
    have hRl : R.length <= 65536 := by omega
    have hKs : Hid (Kept [rb] w1 (wr.setCell ⟨rb, p + i, none⟩ (.int .u8 (x : Int)))) := hide1 (hk.out.setCell (.inl (by simp)) _)
    have hRs : (R.set (p + i) (UInt8.ofNat u)).length = X.b.ram.length := by rw [List.length_set]; exact hR
    clear hset hx hy e1 hg
    go_wp2_with fail
    go_roundw
    case rel =>
     first
      | exact ⟨i + 1, y, R.set (p + i) (UInt8.ofNat u), by omega, hu2, rfl, by go_num, hRs, HS, hKs, hgo⟩
      | ((repeat apply Exists.intro); exact ⟨⟨i + 1, y, R.set (p + i) (UInt8.ofNat u), by omega, hu2, rfl, by go_num, hRs, HS, hKs, hgo⟩, rfl⟩)
    case measure => exact zq191
  . have hlt' : decide ((i : Int) < (n : Int)) = false := by simp; omega
    have hTR : Hid (T = R) := by show T = R; rw [hg.out, show n - i = 0 by omega]; rfl
    clear hg
    go_wp2_with fail
    go_end0
    exact ⟨rfl, by rw [hTR.out]; exact hb.out, hk.out⟩
def xC (X : XS) : CsrS := { mode := X.mode, sie := X.c.mstatus / 2 ^ 1 % 2, mie := X.c.mstatus / 2 ^ 3 % 2, spie := X.c.mstatus / 2 ^ 5 % 2, mpie := X.c.mstatus / 2 ^ 7 % 2, spp := X.c.mstatus / 2 ^ 8 % 2, mpp := X.c.mstatus / 2048 % 4, mprv := X.c.mstatus / 2 ^ 17 % 2, sum := X.c.mstatus / 2 ^ 18 % 2, mxr := X.c.mstatus / 2 ^ 19 % 2, tvm := X.c.mstatus / 2 ^ 20 % 2, tw := X.c.mstatus / 2 ^ 21 % 2, tsr := X.c.mstatus / 2 ^ 22 % 2, mtvec := X.c.mtvec, mscratch := X.c.mscratch, mepc := X.c.mepc, mcause := X.c.mcause, mtval := X.c.mtval, mcen := X.c.mcen, stvec := X.c.stvec, sscratch := X.c.sscratch, sepc := X.c.sepc, scause := X.c.scause, stval := X.c.stval, scen := X.c.scen, medeleg := X.c.medeleg, mideleg := X.c.mideleg, enable := X.c.mie, soft := X.c.mip, inhibit := X.c.minh, satp := X.c.satp, cycle := X.c.cyc, cycleh := X.c.cych, ret := X.c.ret, reth := X.c.reth, held := 0, wroteC := false, wroteI := false }
structure XOk (X : XS) : Prop where
 b : BusOk X.b
 x : X.x.length = 32
 xr : ∀ i, X.x.getD i 0 < 4294967296
 pc : X.pc < 4294967296
 mode : X.mode = 0 \/ X.mode = 1 \/ X.mode = 3
 mstatus : X.c.mstatus < 4294967296
 satp : X.c.satp < 4294967296
 mie : X.c.mie < 4294967296
 mip : X.c.mip <= 546
 medeleg : X.c.medeleg < 4294967296
 mideleg : X.c.mideleg < 4294967296
 mtvec : X.c.mtvec < 4294967296
 mcen : X.c.mcen < 8
 minh : X.c.minh < 8
 mscratch : X.c.mscratch < 4294967296
 mepc : X.c.mepc < 4294967296
 mcause : X.c.mcause < 4294967296
 mtval : X.c.mtval < 4294967296
 stvec : X.c.stvec < 4294967296
 scen : X.c.scen < 8
 sscratch : X.c.sscratch < 4294967296
 sepc : X.c.sepc < 4294967296
 scause : X.c.scause < 4294967296
 stval : X.c.stval < 4294967296
 cyc : X.c.cyc < 4294967296
 cych : X.c.cych < 4294967296
 ret : X.c.ret < 4294967296
 reth : X.c.reth < 4294967296
 resv : X.resv < 17184063488
 mpp : X.c.mstatus / 2048 % 4 ≠ 2
theorem and_bit (e i : Nat) : e &&& 2 ^ i = if bitN e i = true then 2 ^ i else 0 := by
 refine Nat.eq_of_testBit_eq fun j => ?_
 rw [Nat.testBit_and]
 have hb : bitN e i = e.testBit i := by unfold bitN; rw [Nat.testBit_eq_decide_div_mod_eq]
 rw [hb]
 by_cases h : i = j
 . subst h
   cases he : e.testBit i <;> simp
 . have h2 : (2 ^ i).testBit j = false := by rw [Nat.testBit_two_pow]; simp [h]
   rw [h2, Bool.and_false]
   split
   . exact h2.symm
   . simp
theorem and_bits (e a b : Nat) : e &&& (a ||| b) = (e &&& a) ||| (e &&& b) := Nat.and_or_distrib_left e a b
theorem t_and1 (e : Nat) : decide (e &&& 1 = 0) = !bitN e 0 := by
 have h := and_bit e 0
 rw [show (2 : Nat) ^ 0 = 1 from rfl] at h
 rw [h]; cases bitN e 0 <;> rfl
theorem t_and6 (e : Nat) : decide (e &&& 6 = 4) = (bitN e 2 && !bitN e 1) := by
 have h : e &&& 6 = (e &&& 2 ^ 1) ||| (e &&& 2 ^ 2) := and_bits e 2 4
 rw [h, and_bit, and_bit]; cases bitN e 1 <;> cases bitN e 2 <;> rfl
theorem t_and10 (e : Nat) : decide (e &&& 10 = 0) = (!bitN e 1 && !bitN e 3) := by
 have h : e &&& 10 = (e &&& 2 ^ 1) ||| (e &&& 2 ^ 3) := and_bits e 2 8
 rw [h, and_bit, and_bit]; cases bitN e 1 <;> cases bitN e 3 <;> rfl
theorem t_and208 (e : Nat) : decide (e &&& 208 = 0) = (!bitN e 4 && !bitN e 6 && !bitN e 7) := by
 have h : e &&& 208 = ((e &&& 2 ^ 4) ||| (e &&& 2 ^ 6)) ||| (e &&& 2 ^ 7) := by rw [<- and_bits, <- and_bits]; rfl
 rw [h, and_bit, and_bit, and_bit]; cases bitN e 4 <;> cases bitN e 6 <;> cases bitN e 7 <;> rfl
theorem t_and16 (e : Nat) : decide (e &&& 16 = 0) = !bitN e 4 := by
 have h := and_bit e 4
 rw [show (2 : Nat) ^ 4 = 16 from rfl] at h
 rw [h]; cases bitN e 4 <;> rfl
theorem t_bit (e i : Nat) : decide (e &&& 2 ^ i = 0) = !bitN e i := by
 rw [and_bit]; cases bitN e i
 . simp
 . have : ¬ 2 ^ i = 0 := Nat.pos_iff_ne_zero.1 (Nat.two_pow_pos i)
   simp [this]
theorem or_bit (e i : Nat) : e ||| 2 ^ i = if bitN e i = true then e else e + 2 ^ i := by
 have h := or_and _ e (2 ^ i) (Nat.le_refl _)
 rw [and_bit] at h
 split at h <;> rename_i hb <;> simp [hb] <;> omega
theorem bitN_add64 (e : Nat) (h : bitN e 6 = false) : bitN (e + 64) 7 = bitN e 7 := by
 unfold bitN at *
 simp at *
 omega
def mrkD (e kind : Nat) : Nat := if kind = 2 then (e ||| 64) ||| 128 else e ||| 64
theorem mrk_eq (e kind : Nat) : mrkD e kind = e + adB (bitN e 6) (bitN e 7) kind := by
 have h6 := or_bit e 6
 rw [show (2 : Nat) ^ 6 = 64 from rfl] at h6
 unfold mrkD adB
 cases hb : bitN e 6 with
 | true =>
  rw [hb] at h6
  simp only [if_true] at h6
  rw [h6]
  have h7 := or_bit e 7
  rw [show (2 : Nat) ^ 7 = 128 from rfl] at h7
  rw [h7]
  cases bitN e 7 <;> by_cases hk : kind = 2 <;> simp [hk]
 | false =>
  rw [hb] at h6
  simp at h6
  rw [h6]
  have h7 := or_bit (e + 64) 7
  rw [show (2 : Nat) ^ 7 = 128 from rfl, bitN_add64 e hb] at h7
  rw [h7]
  cases bitN e 7 <;> by_cases hk : kind = 2 <;> simp [hk]
theorem set_same {α : Type} (l : List α) (p : Nat) (h : p < l.length) (x : α) (hx : x = l[p]) : l.set p x = l := by subst hx; simp
theorem stN_same : ∀ (n : Nat) (r : List UInt8) (p : Nat), p + n <= r.length -> stN r p n (ldN ((r.drop p).take n)) = r
 | 0, r, p, h => rfl
 | n + 1, r, p, h => by
  have hp : p < r.length := by omega
  rw [List.drop_eq_getElem_cons hp, List.take_succ_cons]
  simp only [ldN, stN]
  have e1 : UInt8.ofNat (r[p].toNat + 256 * ldN ((r.drop (p + 1)).take n)) = r[p] := by
   apply UInt8.toNat_inj.1
   have := u8_bd r[p]
   simp
  have e2 : (r[p].toNat + 256 * ldN ((r.drop (p + 1)).take n)) / 256 = ldN ((r.drop (p + 1)).take n) := by
   have := u8_bd r[p]
   omega
  rw [e1, e2, set_same r p hp _ rfl]
  exact stN_same n r (p + 1) (by omega)
theorem bitN_val (s i : Nat) : bitN s i = decide (s / 2 ^ i % 2 = 1) := rfl
theorem and6144 (s : Nat) : (s &&& 6144) / 2048 = s / 2048 % 4 := by
 have h : s &&& 6144 = (s &&& 2 ^ 11) ||| (s &&& 2 ^ 12) := by rw [<- and_bits]; rfl
 rw [h, and_bit, and_bit]
 have e11 : bitN s 11 = decide (s / 2048 % 4 % 2 = 1) := by unfold bitN; congr 2; omega
 have e12 : bitN s 12 = decide (s / 2048 % 4 / 2 = 1) := by
  unfold bitN
  have : s / 2 ^ 12 % 2 = s / 2048 % 4 / 2 := by omega
  rw [this]
 rw [e11, e12]
 have hr : s / 2048 % 4 = 0 \/ s / 2048 % 4 = 1 \/ s / 2048 % 4 = 2 \/ s / 2048 % 4 = 3 := by omega
 rcases hr with h | h | h | h <;> rw [h] <;> rfl
theorem x_accessMode (mb rb : Nat) (X : XS) (hs : X.c.mstatus < 4294967296) (k : Int) (w) (hw : Hid (XAt w mb rb X)) :
 CS 331 #[.pointer (some ⟨mb, 0, none⟩), .int .i64 k] (.int .i64 (actsD (xC X) k)) w := by
 have c34 := hw.out.c34
 have c38 := hw.out.c38
 obtain ⟨T, hT⟩ := zn1 (actsD (xC X) k)
 rw [<- hT]
 unfold actsD xC at hT
 dsimp only at hT
 obtain ⟨m, hm⟩ := zn1 (X.c.mstatus)
 rw [<- hm] at c38 hT hs
 have p1 : bits .and .i64 (m : Int) 131072 = ((m &&& 131072 : Nat) : Int) := b_and m 131072 (by omega) (by omega)
 have p2 := ne0 (m &&& 131072)
 have e1 : decide (m &&& 131072 = 0) = !bitN m 17 := t_bit m 17
 rw [e1, Bool.not_not, <- p1] at p2
 have p3 : bits .and .i64 (m : Int) 6144 = ((m &&& 6144 : Nat) : Int) := b_and m 6144 (by omega) (by omega)
 have p4 : ((m &&& 6144 : Nat) : Int) / 2048 = ((m / 2048 % 4 : Nat) : Int) := by rw [<- and6144]; simp
 rw [<- p3] at p4
 obtain ⟨r, hr⟩ := zn1 (m / 2048 % 4)
 rw [<- hr] at p4 hT
 rw [<- bitN_val] at hT
 clear hm hr p1 e1 p3
 by_cases hk : k = 0
 . subst hk
   have HT : Hid (T = X.mode) := by rw [hT]; rfl
   clear hT
   go_enter func331, ntmps331
   exact zq230
 . have q : (k != 0) = true := by simp [hk]
   rw [if_neg (by simp [hk])] at hT
   cases hb : bitN m 17 with
   | true =>
    rw [hb] at p2 hT
    have HT : Hid (T = r) := by rw [hT]; rfl
    clear hT hb hk
    go_enter func331, ntmps331
    go_wp2_with fail
    go_ret
    exact ⟨by rw [HT.out] <;> rfl, rfl⟩
   | false =>
    rw [hb] at p2 hT
    have HT : Hid (T = X.mode) := by rw [hT]; rfl
    clear hT hb hk
    go_enter func331, ntmps331
    go_wp2_with fail
    go_ret
    exact ⟨by rw [HT.out] <;> rfl, rfl⟩
def pmtD (mxr : Bool) (k : Nat) : Nat := if k = 0 then 8 else if k = 2 then 4 else if mxr = true then 10 else 2
theorem x_permitting (mb rb : Nat) (X : XS) (hs : X.c.mstatus < 4294967296) (k : Nat) (w) (hw : Hid (XAt w mb rb X)) :
 CS 378 #[.pointer (some ⟨mb, 0, none⟩), .int .i64 k] (.int .i64 (pmtD (bitN X.c.mstatus 19) k)) w := by
 have c38 := hw.out.c38
 obtain ⟨m, hm⟩ := zn1 (X.c.mstatus)
 rw [<- hm] at c38 hs |-
 have p1 : bits .and .i64 (m : Int) 524288 = ((m &&& 524288 : Nat) : Int) := b_and m 524288 (by omega) (by omega)
 have p2 := ne0 (m &&& 524288)
 have e1 : decide (m &&& 524288 = 0) = !bitN m 19 := t_bit m 19
 rw [e1, Bool.not_not, <- p1] at p2
 obtain ⟨b, hb⟩ := zn1 (bitN m 19)
 rw [<- hb] at p2 |-
 clear hm e1 p1 hb
 by_cases h0 : k = 0
 . subst h0
   exact zq231
 . have q0 : ((k : Int) == 0) = false := by simp; omega
   have q0' : (k == 0) = false := by simp; omega
   by_cases h2 : k = 2
   . subst h2
     exact zq231
   . have q2 : ((k : Int) == 2) = false := by simp; omega
     have q2' : (k == 2) = false := by simp; omega
     have HP : Hid (pmtD b k = if b = true then 10 else 2) := by show _ = _; unfold pmtD; rw [if_neg h0, if_neg h2]
     clear h0 h2
     cases b
     all_goals
      go_enter func378, ntmps378
      go_wp2_with fail
      go_ret
      exact ⟨ret_intE (by rw [HP.out]; rfl), rfl⟩
theorem pmt_ne (e k : Nat) (hk : k = 0 \/ k = 1 \/ k = 2) (mxr : Bool) : (!decide (e &&& pmtD mxr k = 0)) = (if k = 0 then bitN e 3 else if k = 1 then (if bitN e 1 = true then true else if mxr = true then bitN e 3 else false) else bitN e 2) := by
 have h8 : decide (e &&& 8 = 0) = !bitN e 3 := t_bit e 3
 have h4 : decide (e &&& 4 = 0) = !bitN e 2 := t_bit e 2
 have h2 : decide (e &&& 2 = 0) = !bitN e 1 := t_bit e 1
 have h10 := t_and10 e
 rcases hk with rfl | rfl | rfl
 . show (!decide (e &&& 8 = 0)) = _; rw [h8]; simp
 . cases mxr
   . show (!decide (e &&& 2 = 0)) = _; rw [h2]; cases bitN e 1 <;> rfl
   . show (!decide (e &&& 10 = 0)) = _; rw [h10]; cases bitN e 1 <;> cases bitN e 3 <;> rfl
 . show (!decide (e &&& 4 = 0)) = _; rw [h4]; simp
theorem pmt_lt (b : Bool) (k : Nat) : pmtD b k < 16 := by
 unfold pmtD; repeat' split
 all_goals omega
theorem x_permits (mb rb : Nat) (X : XS) (hs : X.c.mstatus < 4294967296) (e mode k : Nat) (he : e < 4294967296) (hm : mode = 0 \/ mode = 1) (hk : k = 0 \/ k = 1 \/ k = 2) (w) (hw : Hid (XAt w mb rb X)) :
 CS 333 #[.pointer (some ⟨mb, 0, none⟩), .int .i64 e, .int .i64 mode, .int .i64 k] (.bool (allD (xC X) e k mode)) w := by
 have c38 := hw.out.c38
 have PM := hide1 (x_permitting mb rb X hs k w hw)
 have p0 : bits .and .i64 (e : Int) 16 = ((e &&& 16 : Nat) : Int) := b_and e 16 (by omega) (by omega)
 have p1 := ne0 (e &&& 16)
 rw [t_and16, Bool.not_not, <- p0] at p1
 obtain ⟨T, hT⟩ := zn1 (allD (xC X) e k mode)
 rw [<- hT]
 unfold allD allB xC at hT
 dsimp only at hT
 obtain ⟨m, hmm⟩ := zn1 (X.c.mstatus)
 rw [<- hmm] at c38 PM hT hs
 have s1 : bits .and .i64 (m : Int) 262144 = ((m &&& 262144 : Nat) : Int) := b_and m 262144 (by omega) (by omega)
 have s2 : (bits .and .i64 (m : Int) 262144 == 0) = !bitN m 18 := by
  rw [s1, <- t_bit m 18]
  by_cases h : m &&& 2 ^ 18 = 0 <;> simp [h] <;> exact h
 obtain ⟨u, hu⟩ := zn1 (bitN e 4)
 obtain ⟨sm, hsm⟩ := zn1 (bitN m 18)
 rw [<- bitN_val, <- bitN_val, <- hu, <- hsm] at hT
 rw [<- hu] at p1
 rw [<- hsm] at s2
 have q1 := pmt_ne e k hk (bitN m 19)
 have ql := pmt_lt (bitN m 19) k
 obtain ⟨pm, hpm⟩ := zn1 (pmtD (bitN m 19) k)
 rw [<- hpm] at q1 ql PM
 have r1 := b_and e pm (by omega) (by omega)
 have r2 := ne0 (e &&& pm)
 rw [<- r1, q1] at r2
 obtain ⟨V, hV⟩ := zn1 ((if k = 0 then bitN e 3 else if k = 1 then (if bitN e 1 = true then true else if bitN m 19 = true then bitN e 3 else false) else bitN e 2))
 rw [<- hV] at r2 hT
 clear p0 hmm s1 hu hsm hpm r1 hV q1
 have FINISH : True := trivial
 rcases hm with rfl | rfl
 . cases u
   . exact zq232
   . exact zq233
 . cases u
   . exact zq233
   . by_cases h0 : k = 0
     . subst h0
       exact zq232
     . have q0 : ((k : Int) == 0) = false := by simp; omega
       have q0' : (k == 0) = false := by simp; omega
       cases sm
       . have HT : Hid (T = false) := by rw [hT]; show _ = _; simp
         exact zq234
       . have HT : Hid (T = V) := by rw [hT]; show _ = _; simp [h0]
         exact zq234
def tabD (B : BusS) (a : Nat) : Nat × Nat :=
 if holdsD (a : Nat) 4 B.ram.length = false then (0, 2)
 else if bitN (entE B a) 0 = false \/ (bitN (entE B a) 2 = true /\ bitN (entE B a) 1 = false) then (0, 1)
 else (entE B a, 0)
theorem eq0 (n : Nat) : ((n : Int) == 0) = decide (n = 0) := by by_cases h : n = 0 <;> simp [h]
theorem x_tableEntry (mb rb : Nat) (X : XS) (hram : X.b.ram.length <= 65536) (a : Nat) (ha : a < 68719476736) (w) (hw : Hid (XAt w mb rb X)) :
 CS 375 #[.pointer (some ⟨mb, 0, none⟩), .int .i64 a] (.tuple #[.int .i64 (tabD X.b a).1, .int .i64 (tabD X.b a).2]) w := by
 have I : Hid (CS 261 #[.pointer (some ⟨mb, 0, none⟩), .int .i64 a, .int .i64 4] (.bool (holdsD a 4 X.b.ram.length)) w) := hide1 (x_isRam mb rb X hram a 4 (by omega) (by omega) (by omega) (by omega) w hw)
 unfold tabD
 cases hh : holdsD (a : Nat) 4 X.b.ram.length with
 | false =>
  rw [hh] at I
  rw [if_pos rfl]
  clear hh
  go_enter func375, ntmps375
  go_wp2_with (go_at_call 261; refine I.out.mono ?_; rintro e w1 ⟨rfl, rfl⟩)
  go_ret2
  exact ⟨rfl, rfl⟩
 | true =>
  rw [hh] at I
  rw [if_neg (by simp)]
  obtain ⟨h1, h2⟩ := holdsD_at hh
  have R : Hid (CS 262 #[.pointer (some ⟨mb, 0, none⟩), .int .i64 a, .int .i64 4] (.int .i64 (entE X.b a)) w) := hide1 (x_ramNumber_yes mb rb X hram a (a - 2147483648) 4 (by omega) (by omega) (by omega) h2 w hw)
  have hl := entE_lt X.b a
  obtain ⟨e, hE⟩ := zn1 (entE X.b a)
  rw [<- hE] at R hl |-
  have p1 : bits .and .i64 (e : Int) 1 = ((e &&& 1 : Nat) : Int) := b_and e 1 (by omega) (by omega)
  have p2 := eq0 (e &&& 1)
  rw [t_and1, <- p1] at p2
  have p3 : bits .and .i64 (e : Int) 6 = ((e &&& 6 : Nat) : Int) := b_and e 6 (by omega) (by omega)
  have p4 : (bits .and .i64 (e : Int) 6 == 4) = (bitN e 2 && !bitN e 1) := by
   rw [p3, <- t_and6]; by_cases h : e &&& 6 = 4 <;> simp [h]; omega
  clear p1 p3 hh hE h1 h2
  cases h0 : bitN e 0 with
  | false =>
   rw [h0] at p2
   rw [if_pos (.inl rfl)]
   clear h0
   go_enter func375, ntmps375
   go_wp2_with (first | (go_at_call 261; refine I.out.mono ?_; rintro e w1 ⟨rfl, rfl⟩) | (go_at_call 262; refine R.out.mono ?_; rintro e w1 ⟨rfl, rfl⟩))
   go_ret2
   exact ⟨rfl, rfl⟩
  | true =>
   rw [h0] at p2
   cases h2 : bitN e 2 with
   | false =>
    rw [h2] at p4
    rw [if_neg (by simp)]
    clear h0 h2
    go_enter func375, ntmps375
    go_wp2_with (first | (go_at_call 261; refine I.out.mono ?_; rintro e w1 ⟨rfl, rfl⟩) | (go_at_call 262; refine R.out.mono ?_; rintro e w1 ⟨rfl, rfl⟩))
    go_ret2
    exact ⟨rfl, rfl⟩
   | true =>
    rw [h2] at p4
    cases h1 : bitN e 1 with
    | false =>
     rw [h1] at p4
     rw [if_pos (.inr ⟨rfl, rfl⟩)]
     clear h0 h2 h1
     go_enter func375, ntmps375
     go_wp2_with (first | (go_at_call 261; refine I.out.mono ?_; rintro e w1 ⟨rfl, rfl⟩) | (go_at_call 262; refine R.out.mono ?_; rintro e w1 ⟨rfl, rfl⟩))
     go_ret2
     exact ⟨rfl, rfl⟩
    | true =>
     rw [h1] at p4
     rw [if_neg (by simp)]
     clear h0 h2 h1
     go_enter func375, ntmps375
     go_wp2_with (first | (go_at_call 261; refine I.out.mono ?_; rintro e w1 ⟨rfl, rfl⟩) | (go_at_call 262; refine R.out.mono ?_; rintro e w1 ⟨rfl, rfl⟩))
     go_ret2
     exact ⟨rfl, rfl⟩
structure Lf where
 a : Nat
 e : Nat
 ip : Nat
 f : Nat
def lf0 (f : Nat) : Lf := ⟨0, 0, 0, f⟩
def lfV (l : Lf) : Value := .agg #[.int .i64 l.a, .int .i64 l.e, .int .i64 l.ip]
def secD (B : BusS) (p va : Nat) : Lf :=
 if p &&& 208 = 0 then
  (if (tabD B (p / 1024 * 4096 + 4 * (va / 4096 % 1024))).2 = 0 then
    (if (tabD B (p / 1024 * 4096 + 4 * (va / 4096 % 1024))).1 &&& 10 = 0 then lf0 1 else ⟨p / 1024 * 4096 + 4 * (va / 4096 % 1024), (tabD B (p / 1024 * 4096 + 4 * (va / 4096 % 1024))).1, 4095, 0⟩)
   else lf0 (tabD B (p / 1024 * 4096 + 4 * (va / 4096 % 1024))).2)
 else lf0 1
def wkD (B : BusS) (satp va : Nat) : Lf :=
 if (tabD B (satp % 4194304 * 4096 + 4 * (va / 4194304))).2 = 0 then
  (if (tabD B (satp % 4194304 * 4096 + 4 * (va / 4194304))).1 &&& 10 = 0 then secD B (tabD B (satp % 4194304 * 4096 + 4 * (va / 4194304))).1 va
   else if (tabD B (satp % 4194304 * 4096 + 4 * (va / 4194304))).1 / 1024 * 4096 % 4194304 = 0 then ⟨satp % 4194304 * 4096 + 4 * (va / 4194304), (tabD B (satp % 4194304 * 4096 + 4 * (va / 4194304))).1, 4194303, 0⟩ else lf0 1)
 else lf0 (tabD B (satp % 4194304 * 4096 + 4 * (va / 4194304))).2
theorem tab_lt (B : BusS) (a : Nat) : (tabD B a).1 < 4294967296 := by
 unfold tabD
 have := entE_lt B a
 exact zq205
theorem x_walkSecond (mb rb : Nat) (X : XS) (hram : X.b.ram.length <= 65536) (p va : Nat) (hp : p < 4294967296) (hva : va < 4294967296) (w) (hw : Hid (XAt w mb rb X)) :
 CK 377 #[.pointer (some ⟨mb, 0, none⟩), .int .i64 p, .int .i64 va] (.tuple #[lfV (secD X.b p va), .int .i64 (secD X.b p va).f]) w := by
 have p1 : bits .and .i64 (p : Int) 208 = ((p &&& 208 : Nat) : Int) := b_and p 208 (by omega) (by omega)
 have p2 := ne0 (p &&& 208)
 rw [<- p1] at p2
 unfold secD
 obtain ⟨a, ha⟩ := zn1 (p / 1024 * 4096 + 4 * (va / 4096 % 1024))
 have hal : a < 68719476736 := by omega
 have TE : ∀ W, Hid (XAt W mb rb X) -> CS 375 #[.pointer (some ⟨mb, 0, none⟩), .int .i64 a] (.tuple #[.int .i64 (tabD X.b a).1, .int .i64 (tabD X.b a).2]) W := fun W h => x_tableEntry mb rb X hram a hal W h
 have PA := fun W => hide1 (x_pageAddress p hp W)
 rw [<- ha]
 obtain ⟨g, hg⟩ := zn1 (p / 1024 * 4096)
 rw [<- hg] at ha
 simp only [<- hg] at PA
 have hgl : g < 17179869184 := by omega
 have a1 : (g : Int) + 4 * ((va : Int) / 4096 % 1024) = (a : Int) := by omega
 have hte := tab_lt X.b a
 obtain ⟨t, f, htf⟩ : ∃ t f, tabD X.b a = (t, f) := ⟨_, _, rfl⟩
 rw [htf] at hte |-
 simp only [htf] at TE
 dsimp only at hte TE |-
 have IP := fun W => hide1 (x_isPointer t hte W)
 have HTE := hide1 TE
 have hwa : Hid (XAt (w.alloc (.cells #[.int .i64 0, .int .i64 0, .int .i64 0] 252)) mb rb X) := zq10
 have f1 : ((f : Int) != 0) = !decide (f = 0) := ne0 f
 clear TE p1 hg ha htf hal hram hp hte
 by_cases h : p &&& 208 = 0
 . rw [if_pos h]
   rw [decide_eq_true h] at p2
   by_cases h2 : f = 0
   . rw [if_pos h2]
     rw [decide_eq_true h2] at f1
     by_cases h3 : t &&& 10 = 0
     . rw [if_pos h3]
       simp only [decide_eq_true h3] at IP
       unfold lfV lf0
       clear h h2 h3
       exact zq235
     . rw [if_neg h3]
       simp only [decide_eq_false h3] at IP
       unfold lfV
       clear h h2 h3
       go_enter func377, ntmps377
       go_wp2_with (first | (go_at_call 335; refine (PA _).out.mono ?_; rintro o w1 ⟨rfl, rfl⟩) | (go_at_call 375; refine (HTE.out _ hwa).mono ?_; rintro o w1 ⟨rfl, rfl⟩) | (go_at_call 376; refine (IP _).out.mono ?_; rintro o w1 ⟨rfl, rfl⟩))
       exact bodyPost_ret (v := .tuple #[.agg #[.int .i64 a, .int .i64 t, .int .i64 4095], .int .i64 0]) zq498 rfl ⟨rfl, zq493⟩
   . rw [if_neg h2]
     rw [decide_eq_false h2] at f1
     unfold lfV lf0
     clear h h2
     go_enter func377, ntmps377
     go_wp2_with (first | (go_at_call 335; refine (PA _).out.mono ?_; rintro o w1 ⟨rfl, rfl⟩) | (go_at_call 375; refine (HTE.out _ hwa).mono ?_; rintro o w1 ⟨rfl, rfl⟩) | (go_at_call 376; refine (IP _).out.mono ?_; rintro o w1 ⟨rfl, rfl⟩))
     exact bodyPost_ret (v := .tuple #[.agg #[.int .i64 0, .int .i64 0, .int .i64 0], .int .i64 f]) zq498 rfl ⟨rfl, zq493⟩
 . rw [if_neg h]
   rw [decide_eq_false h] at p2
   unfold lfV lf0
   clear h
   exact zq235
theorem x_walk (mb rb : Nat) (X : XS) (hram : X.b.ram.length <= 65536) (hsa : X.c.satp < 4294967296) (va : Nat) (hva : va < 4294967296) (w) (hw : Hid (XAt w mb rb X)) :
 CK 332 #[.pointer (some ⟨mb, 0, none⟩), .int .i64 va] (.tuple #[lfV (wkD X.b X.c.satp va), .int .i64 (wkD X.b X.c.satp va).f]) w := by
 have c56 := hw.out.c56
 have hlt := hw.out.lt
 have hwa : Hid (XAt (w.alloc (.cells #[.int .i64 0, .int .i64 0, .int .i64 0] 252)) mb rb X) := zq10
 obtain ⟨sa, hsat⟩ := zn1 (X.c.satp)
 rw [<- hsat] at c56 hsa |-
 have s1 : bits .and .i64 (sa : Int) 4194303 = ((sa % 4194304 : Nat) : Int) := by
  have := and_mask (sa : Int) 22 (by decide)
  have e : ((2 : Int) ^ 22) = 4194304 := by decide
  have e2 : ((2 ^ 22 - 1 : Nat) : Int) = 4194303 := by decide
  rw [e, e2] at this
  rw [this]; simp
 unfold wkD
 obtain ⟨a, ha⟩ := zn1 (sa % 4194304 * 4096 + 4 * (va / 4194304))
 have hal : a < 68719476736 := by omega
 have TE : ∀ W, Hid (XAt W mb rb X) -> CS 375 #[.pointer (some ⟨mb, 0, none⟩), .int .i64 a] (.tuple #[.int .i64 (tabD X.b a).1, .int .i64 (tabD X.b a).2]) W := fun W h => x_tableEntry mb rb X hram a hal W h
 rw [<- ha]
 obtain ⟨g, hg⟩ := zn1 (sa % 4194304)
 rw [<- hg] at ha s1
 have hgl : g < 4194304 := by omega
 have a1 : (g : Int) * 4096 + 4 * ((va : Int) / 4194304) = (a : Int) := by omega
 have hte := tab_lt X.b a
 obtain ⟨t, f, htf⟩ : ∃ t f, tabD X.b a = (t, f) := ⟨_, _, rfl⟩
 rw [htf] at hte |-
 simp only [htf] at TE
 dsimp only at hte TE |-
 have IP := fun W => hide1 (x_isPointer t hte W)
 have PA := fun W => hide1 (x_pageAddress t hte W)
 have WS := hide1 (fun W h => x_walkSecond mb rb X hram t va hte hva W h)
 have HTE := hide1 TE
 have f1 : ((f : Int) != 0) = !decide (f = 0) := ne0 f
 obtain ⟨pg, hpg⟩ := zn1 (t / 1024 * 4096)
 have hpl : pg < 17179869184 := by omega
 simp only [<- hpg] at PA |-
 have m1 : ((pg : Int) % 4194304 != 0) = !decide (pg % 4194304 = 0) := by
  rw [<- ne0]; simp
 clear TE hg ha htf hal hram hte hpg hsat hw
 by_cases h2 : f = 0
 . rw [if_pos h2]
   rw [decide_eq_true h2] at f1
   by_cases h3 : t &&& 10 = 0
   . rw [if_pos h3]
     simp only [decide_eq_true h3] at IP
     obtain ⟨l, hl⟩ := zn1 (secD X.b t va)
     simp only [<- hl] at WS |-
     clear h2 h3 hl m1
     obtain ⟨la, le, li, lff⟩ := l
     unfold lfV at WS |-
     dsimp only at WS |-
     go_enter func332, ntmps332
     go_wp2_with (first | (go_at_call 335; refine (PA _).out.mono ?_; rintro o w1 ⟨rfl, rfl⟩) | (go_at_call 375; refine (HTE.out _ hwa).mono ?_; rintro o w1 ⟨rfl, rfl⟩) | (go_at_call 376; refine (IP _).out.mono ?_; rintro o w1 ⟨rfl, rfl⟩) | (go_at_call 377; refine (WS.out _ hwa).mono ?_; rintro o w1 ⟨rfl, hk1⟩; obtain ⟨k1, f1⟩ := hk1.box w.heap.size zq491 (by simp)))
     exact bodyPost_ret (v := .tuple #[.agg #[.int .i64 la, .int .i64 le, .int .i64 li], .int .i64 lff]) (by simp [results, results332, go_sem, k1]) rfl ⟨rfl, zq499⟩
   . rw [if_neg h3]
     simp only [decide_eq_false h3] at IP
     by_cases h4 : pg % 4194304 = 0
     . rw [if_pos h4]
       rw [decide_eq_true h4] at m1
       unfold lfV
       clear h2 h3 h4
       go_enter func332, ntmps332
       go_wp2_with (first | (go_at_call 335; refine (PA _).out.mono ?_; rintro o w1 ⟨rfl, rfl⟩) | (go_at_call 375; refine (HTE.out _ hwa).mono ?_; rintro o w1 ⟨rfl, rfl⟩) | (go_at_call 376; refine (IP _).out.mono ?_; rintro o w1 ⟨rfl, rfl⟩) | (go_at_call 377; refine (WS.out _ hwa).mono ?_; rintro o w1 ⟨rfl, hk1⟩; obtain ⟨k1, f1⟩ := hk1.box w.heap.size zq491 (by simp)))
       exact bodyPost_ret (v := .tuple #[.agg #[.int .i64 a, .int .i64 t, .int .i64 4194303], .int .i64 0]) zq500 rfl ⟨rfl, zq493⟩
     . rw [if_neg h4]
       rw [decide_eq_false h4] at m1
       unfold lfV lf0
       clear h2 h3 h4
       go_enter func332, ntmps332
       go_wp2_with (first | (go_at_call 335; refine (PA _).out.mono ?_; rintro o w1 ⟨rfl, rfl⟩) | (go_at_call 375; refine (HTE.out _ hwa).mono ?_; rintro o w1 ⟨rfl, rfl⟩) | (go_at_call 376; refine (IP _).out.mono ?_; rintro o w1 ⟨rfl, rfl⟩) | (go_at_call 377; refine (WS.out _ hwa).mono ?_; rintro o w1 ⟨rfl, hk1⟩; obtain ⟨k1, f1⟩ := hk1.box w.heap.size zq491 (by simp)))
       exact bodyPost_ret (v := .tuple #[.agg #[.int .i64 0, .int .i64 0, .int .i64 0], .int .i64 1]) zq500 rfl ⟨rfl, zq493⟩
 . rw [if_neg h2]
   rw [decide_eq_false h2] at f1
   unfold lfV lf0
   clear h2
   go_enter func332, ntmps332
   go_wp2_with (first | (go_at_call 335; refine (PA _).out.mono ?_; rintro o w1 ⟨rfl, rfl⟩) | (go_at_call 375; refine (HTE.out _ hwa).mono ?_; rintro o w1 ⟨rfl, rfl⟩) | (go_at_call 376; refine (IP _).out.mono ?_; rintro o w1 ⟨rfl, rfl⟩) | (go_at_call 377; refine (WS.out _ hwa).mono ?_; rintro o w1 ⟨rfl, hk1⟩; obtain ⟨k1, f1⟩ := hk1.box w.heap.size zq491 (by simp)))
   exact bodyPost_ret (v := .tuple #[.agg #[.int .i64 0, .int .i64 0, .int .i64 0], .int .i64 f]) zq500 rfl ⟨rfl, zq493⟩
theorem p_and10 (e : Nat) : (e &&& 10 = 0) ↔ (bitN e 1 = false /\ bitN e 3 = false) := by
 have h := t_and10 e
 by_cases hz : e &&& 10 = 0
 . rw [decide_eq_true hz] at h; simp [hz]; cases h1 : bitN e 1 <;> cases h3 : bitN e 3 <;> simp [h1, h3] at h |-
 . rw [decide_eq_false hz] at h; simp [hz]; cases h1 : bitN e 1 <;> cases h3 : bitN e 3 <;> simp [h1, h3] at h |-
theorem p_and208 (e : Nat) : (e &&& 208 = 0) ↔ (bitN e 4 = false /\ bitN e 6 = false /\ bitN e 7 = false) := by
 have h := t_and208 e
 by_cases hz : e &&& 208 = 0
 . rw [decide_eq_true hz] at h; simp [hz]; cases h1 : bitN e 4 <;> cases h3 : bitN e 6 <;> cases h7 : bitN e 7 <;> simp [h1, h3, h7] at h |-
 . rw [decide_eq_false hz] at h; simp [hz]; cases h1 : bitN e 4 <;> cases h3 : bitN e 6 <;> cases h7 : bitN e 7 <;> simp [h1, h3, h7] at h |-
def trX (B : BusS) (C : CsrS) (l : Lf) (va k mode : Nat) : (Nat × Nat) × BusS :=
 if l.f = 0 then (if allD C l.e k mode = true then ((l.e / 1024 * 4096 + va % (l.ip + 1), 0), { B with ram := stN B.ram (l.a - 2147483648) 4 (mrkD l.e k) }) else ((0, 1), B)) else ((0, l.f), B)
theorem mark_same (B : BusS) (p e k : Nat) (h : p + 4 <= B.ram.length) (he : e = rdRam B p 4) : (if adB (bitN e 6) (bitN e 7) k = 0 then B else { B with ram := stN B.ram p 4 (e + adB (bitN e 6) (bitN e 7) k) }) = { B with ram := stN B.ram p 4 (mrkD e k) } := by
 rw [mrk_eq]
 split
 . rename_i h0
   rw [h0, Nat.add_zero]
   have := stN_same 4 B.ram p h
   rw [he]
   unfold rdRam
   rw [this]
 . rfl
theorem sp1 : 4194303 + 1 = spanN 1 := by unfold spanN; rw [if_pos rfl]
theorem sp0 : 4095 + 1 = spanN 0 := by unfold spanN; rw [if_neg (by simp)]
theorem trX_leaf (B : BusS) (C : CsrS) (a va k mode lvl ip : Nat) (hip : ip + 1 = spanN lvl) (h : a - 2147483648 + 4 <= B.ram.length) (hal : ¬ (lvl = 1 /\ ¬ entE B a / 1024 % 1024 = 0)) : leafD B C (entE B a) a lvl va k mode = trX B C ⟨a, entE B a, ip, 0⟩ va k mode := by
 have he : entE B a = rdRam B (a - 2147483648) 4 := rfl
 obtain ⟨e, hee⟩ := zn1 (entE B a)
 rw [<- hee] at he hal |-
 clear hee
 unfold leafD trX
 dsimp only
 generalize a - 2147483648 = p at *
 rw [if_pos (rfl : (0 : Nat) = 0), mark_same B p e k h he, hip]
 cases allD C e k mode
 . simp
 . rw [if_neg (by simp), if_neg hal]; simp
theorem tr_fault (B : BusS) (C : CsrS) (f va k mode : Nat) (h : f ≠ 0) : trX B C (lf0 f) va k mode = ((0, f), B) := by
 unfold trX lf0
 dsimp only
 rw [if_neg h]
theorem leaf_mis (B : BusS) (C : CsrS) (e a va k mode : Nat) (h : ¬ e / 1024 % 1024 = 0) : leafD B C e a 1 va k mode = trX B C (lf0 1) va k mode := by
 rw [tr_fault B C 1 va k mode (by decide)]
 unfold leafD
 generalize a - 2147483648 = p at *
 split
 . rfl
 . rw [if_pos ⟨rfl, h⟩]
theorem trX_eq (B : BusS) (C : CsrS) (satp va k mode : Nat) (hva : va < 4294967296) : walk1 B C (satp % 4194304 * 4096) va k mode = trX B C (wkD B satp va) va k mode := by
 unfold walk1 wkD
 have ea : entA (satp % 4194304 * 4096) va 1 = satp % 4194304 * 4096 + 4 * (va / 4194304) := by
  unfold entA spanN; rw [if_pos (rfl : (1 : Nat) = 1)]; omega
 rw [ea]
 obtain ⟨a, ha⟩ := zn1 (satp % 4194304 * 4096 + 4 * (va / 4194304))
 rw [<- ha]
 clear ha ea
 cases hh : holdsD (a : Nat) 4 B.ram.length with
 | false =>
  have ht : tabD B a = (0, 2) := by unfold tabD; rw [hh]; rfl
  rw [ht]; exact (tr_fault B C 2 va k mode (by decide)).symm
 | true =>
  rw [if_neg (by simp)]
  obtain ⟨hg1, hg2⟩ := holdsD_at hh
  by_cases hv : bitN (entE B a) 0 = false \/ (bitN (entE B a) 2 = true /\ bitN (entE B a) 1 = false)
  . have ht : tabD B a = (0, 1) := by unfold tabD; rw [hh, if_neg (by simp), if_pos hv]
    rw [ht, if_pos hv]; exact (tr_fault B C 1 va k mode (by decide)).symm
  . have ht : tabD B a = (entE B a, 0) := by unfold tabD; rw [hh, if_neg (by simp), if_neg hv]
    rw [ht, if_neg hv]
    dsimp only
    rw [if_pos (rfl : (0 : Nat) = 0)]
    by_cases hp : entE B a &&& 10 = 0
    . rw [if_pos hp, if_pos ((p_and10 _).1 hp)]
      obtain ⟨e, he⟩ := zn1 (entE B a)
      rw [<- he]
      clear he hv ht hh hg1 hg2
      unfold secD
      by_cases hq : e &&& 208 = 0
      . have hq' := (p_and208 e).1 hq
        rw [if_pos hq, if_neg (by rw [hq'.1, hq'.2.1, hq'.2.2]; simp)]
        unfold walk0
        have ea : entA (e / 1024 * 4096) va 0 = e / 1024 * 4096 + 4 * (va / 4096 % 1024) := by
         unfold entA spanN; rw [if_neg (by simp)]; omega
        rw [ea]
        obtain ⟨c, hc⟩ := zn1 (e / 1024 * 4096 + 4 * (va / 4096 % 1024))
        rw [<- hc]
        clear hc ea
        cases hh : holdsD (c : Nat) 4 B.ram.length with
        | false =>
         have ht : tabD B c = (0, 2) := by unfold tabD; rw [hh]; rfl
         rw [ht]; exact (tr_fault B C 2 va k mode (by decide)).symm
        | true =>
         rw [if_neg (by simp)]
         obtain ⟨hg1, hg2⟩ := holdsD_at hh
         by_cases hv : bitN (entE B c) 0 = false \/ (bitN (entE B c) 2 = true /\ bitN (entE B c) 1 = false)
         . have ht : tabD B c = (0, 1) := by unfold tabD; rw [hh, if_neg (by simp), if_pos hv]
           rw [ht, if_pos hv]; exact (tr_fault B C 1 va k mode (by decide)).symm
         . have ht : tabD B c = (entE B c, 0) := by unfold tabD; rw [hh, if_neg (by simp), if_neg hv]
           rw [ht, if_neg hv]
           dsimp only
           rw [if_pos (rfl : (0 : Nat) = 0)]
           by_cases hp : entE B c &&& 10 = 0
           . rw [if_pos hp, if_pos ((p_and10 _).1 hp)]; exact (tr_fault B C 1 va k mode (by decide)).symm
           . rw [if_neg hp, if_neg (fun h => hp ((p_and10 _).2 h))]
             exact trX_leaf B C c va k mode 0 4095 sp0 hg2 (by simp)
      . rw [if_neg hq, if_pos]
        . exact (tr_fault B C 1 va k mode (by decide)).symm
        . have := fun h => hq ((p_and208 e).2 h)
          cases h4 : bitN e 4 <;> cases h6 : bitN e 6 <;> cases h7 : bitN e 7 <;> simp [h4, h6, h7] at this |-
    . have hmA : entE B a / 1024 * 4096 % 4194304 = 0 ↔ entE B a / 1024 % 1024 = 0 := by omega
      have hn : ¬ (bitN (entE B a) 1 = false /\ bitN (entE B a) 3 = false) := fun h => hp ((p_and10 (entE B a)).2 h)
      simp only [if_neg hp, if_neg hn]
      by_cases hm : entE B a / 1024 % 1024 = 0
      . simp only [if_pos (hmA.2 hm)]
        exact trX_leaf B C a va k mode 1 4194303 sp1 hg2 (by intro h; exact h.2 hm)
      . simp only [if_neg (fun h => hm (hmA.1 h))]
        exact leaf_mis B C _ a va k mode hm
theorem wk_a (B : BusS) (satp va : Nat) (hva : va < 4294967296) (h : (wkD B satp va).f = 0) : 2147483648 <= (wkD B satp va).a /\ (wkD B satp va).a - 2147483648 + 4 <= B.ram.length /\ (wkD B satp va).a < 68719476736 /\ (wkD B satp va).e < 4294967296 /\ ((wkD B satp va).ip = 4095 \/ (wkD B satp va).ip = 4194303) := by
 have tb : ∀ c, (tabD B c).2 = 0 -> 2147483648 <= c /\ c - 2147483648 + 4 <= B.ram.length := by
  intro c hc
  unfold tabD at hc
  cases hh : holdsD (c : Nat) 4 B.ram.length with
  | false => rw [hh] at hc; simp at hc
  | true => exact holdsD_at hh
 revert h
 unfold wkD secD
 repeat' split
 all_goals (intro h; dsimp only [lf0] at h |-)
 all_goals first
  | omega
  | (rename_i h1 h2 h3 h4 h5
     have := tb _ h4
     have h6 := tab_lt B (satp % 4194304 * 4096 + 4 * (va / 4194304))
     have h7 := tab_lt B ((tabD B (satp % 4194304 * 4096 + 4 * (va / 4194304))).1 / 1024 * 4096 + 4 * (va / 4096 % 1024))
     exact ⟨this.1, this.2, by omega, h7, .inl rfl⟩)
  | (rename_i h1 h2 h3
     have := tb _ h1
     have h6 := tab_lt B (satp % 4194304 * 4096 + 4 * (va / 4194304))
     exact ⟨this.1, this.2, by omega, h6, .inr rfl⟩)
  | (exfalso; simp_all)
end Go.Proofs.YtmlgonbhoknoiabGreatDoor
