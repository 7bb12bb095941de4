import Derived.Test.YtmlgonbhoknoiabGreatDoorYQ
set_option maxHeartbeats 8000000
set_option linter.all false
namespace Go.Proofs.YtmlgonbhoknoiabGreatDoor
open Go.RowKit Go.Proofs.Tryz
namespace Byt
def dig (c : UInt8) : Bool := decide (48 <= c.toNat) && decide (c.toNat <= 57)
def letr (c : UInt8) : Bool := (decide (97 <= c.toNat) && decide (c.toNat <= 122)) || (decide (65 <= c.toNat) && decide (c.toNat <= 90)) || decide (c.toNat = 95) || decide (c.toNat = 46)
def nmc (c : UInt8) : Bool := letr c || dig c
def inn (c : UInt8) : Bool := nmc c || decide (c.toNat = 45)
def blank (c : UInt8) : Bool := decide (c.toNat = 32) || decide (c.toNat = 9)
def hexv (c : UInt8) : Nat := if 48 <= c.toNat /\ c.toNat <= 57 then c.toNat - 48 else if 97 <= c.toNat /\ c.toNat <= 102 then c.toNat - 87 else if 65 <= c.toNat /\ c.toNat <= 70 then c.toNat - 55 else 16
end Byt
theorem u8_bd (c : UInt8) : c.toNat <= 255 := by have := c.toNat_lt; omega
theorem a_isDigit (c : UInt8) (w : World) :
 CS 308 #[.int .u8 (c.toNat : Int)] (.bool (Byt.dig c)) w := by
 have hbd := u8_bd c
 by_cases k0 : c.toNat <= 47
 . have l0 : 0 <= c.toNat := by omega
   have vv : Byt.dig c = false := zq0
   rw [vv]
   skip
   exact zq184
 by_cases k1 : c.toNat <= 57
 . have l0 : 48 <= c.toNat := by omega
   have vv : Byt.dig c = true := zq0
   rw [vv]
   clear k0
   exact zq184
 have l0 : 58 <= c.toNat := by omega
 have vv : Byt.dig c = false := zq0
 rw [vv]
 clear k0 k1
 exact zq184
theorem a_isBlank (c : UInt8) (w : World) :
 CS 219 #[.int .u8 (c.toNat : Int)] (.bool (Byt.blank c)) w := by
 have hbd := u8_bd c
 by_cases k0 : c.toNat <= 8
 . have l0 : 0 <= c.toNat := by omega
   have vv : Byt.blank c = false := zq1
   rw [vv]
   skip
   exact zq185
 by_cases k1 : c.toNat <= 9
 . have l0 : 9 <= c.toNat := by omega
   have vv : Byt.blank c = true := zq1
   rw [vv]
   clear k0
   exact zq185
 by_cases k2 : c.toNat <= 31
 . have l0 : 10 <= c.toNat := by omega
   have vv : Byt.blank c = false := zq1
   rw [vv]
   clear k0 k1
   exact zq185
 by_cases k3 : c.toNat <= 32
 . have l0 : 32 <= c.toNat := by omega
   have vv : Byt.blank c = true := zq1
   rw [vv]
   clear k0 k1 k2
   exact zq185
 have l0 : 33 <= c.toNat := by omega
 have vv : Byt.blank c = false := zq1
 rw [vv]
 clear k0 k1 k2 k3
 exact zq185
theorem a_isNameByte (c : UInt8) (w : World) :
 CS 307 #[.int .u8 (c.toNat : Int)] (.bool (Byt.nmc c)) w := by
 have hbd := u8_bd c
 by_cases k0 : c.toNat <= 45
 . have l0 : 0 <= c.toNat := by omega
   have v_a_isDigit : Byt.dig c = false := zq0
   have vv : Byt.nmc c = false := zq2
   rw [vv]
   skip
   exact zq186
 by_cases k1 : c.toNat <= 46
 . have l0 : 46 <= c.toNat := by omega
   have v_a_isDigit : Byt.dig c = false := zq0
   have vv : Byt.nmc c = true := zq2
   rw [vv]
   clear k0
   exact zq186
 by_cases k2 : c.toNat <= 47
 . have l0 : 47 <= c.toNat := by omega
   have v_a_isDigit : Byt.dig c = false := zq0
   have vv : Byt.nmc c = false := zq2
   rw [vv]
   clear k0 k1
   exact zq186
 by_cases k3 : c.toNat <= 57
 . have l0 : 48 <= c.toNat := by omega
   have v_a_isDigit : Byt.dig c = true := zq0
   have vv : Byt.nmc c = true := zq2
   rw [vv]
   clear k0 k1 k2
   exact zq186
 by_cases k4 : c.toNat <= 64
 . have l0 : 58 <= c.toNat := by omega
   have v_a_isDigit : Byt.dig c = false := zq0
   have vv : Byt.nmc c = false := zq2
   rw [vv]
   clear k0 k1 k2 k3
   exact zq186
 by_cases k5 : c.toNat <= 90
 . have l0 : 65 <= c.toNat := by omega
   have v_a_isDigit : Byt.dig c = false := zq0
   have vv : Byt.nmc c = true := zq2
   rw [vv]
   clear k0 k1 k2 k3 k4
   exact zq186
 by_cases k6 : c.toNat <= 94
 . have l0 : 91 <= c.toNat := by omega
   have v_a_isDigit : Byt.dig c = false := zq0
   have vv : Byt.nmc c = false := zq2
   rw [vv]
   clear k0 k1 k2 k3 k4 k5
   exact zq186
 by_cases k7 : c.toNat <= 95
 . have l0 : 95 <= c.toNat := by omega
   have v_a_isDigit : Byt.dig c = false := zq0
   have vv : Byt.nmc c = true := zq2
   rw [vv]
   clear k0 k1 k2 k3 k4 k5 k6
   exact zq186
 by_cases k8 : c.toNat <= 96
 . have l0 : 96 <= c.toNat := by omega
   have v_a_isDigit : Byt.dig c = false := zq0
   have vv : Byt.nmc c = false := zq2
   rw [vv]
   clear k0 k1 k2 k3 k4 k5 k6 k7
   exact zq186
 by_cases k9 : c.toNat <= 122
 . have l0 : 97 <= c.toNat := by omega
   have v_a_isDigit : Byt.dig c = false := zq0
   have vv : Byt.nmc c = true := zq2
   rw [vv]
   clear k0 k1 k2 k3 k4 k5 k6 k7 k8
   exact zq186
 have l0 : 123 <= c.toNat := by omega
 have v_a_isDigit : Byt.dig c = false := zq0
 have vv : Byt.nmc c = false := zq2
 rw [vv]
 clear k0 k1 k2 k3 k4 k5 k6 k7 k8 k9
 exact zq186
theorem hide1 {p : Prop} (h : p) : Hid p := h
theorem a_digitValue (c : UInt8) (w : World) :
 CS 442 #[.int .u8 (c.toNat : Int)] (.int .i64 ((Byt.hexv c : Nat))) w := by
 have hbd := u8_bd c
 by_cases k0 : c.toNat <= 47
 . have l0 : 0 <= c.toNat := by omega
   have vv : Byt.hexv c = 16 := zq3
   have vd : Byt.dig c = false := zq0
   rw [vv]
   skip
   exact zq187
 by_cases k1 : c.toNat <= 57
 . have l0 : 48 <= c.toNat := by omega
   have vv : Byt.hexv c = c.toNat - 48 := by unfold Byt.hexv; rw [if_pos (by omega)]
   have vd : Byt.dig c = true := zq0
   rw [vv]
   clear k0
   exact zq187
 by_cases k2 : c.toNat <= 64
 . have l0 : 58 <= c.toNat := by omega
   have vv : Byt.hexv c = 16 := zq3
   have vd : Byt.dig c = false := zq0
   rw [vv]
   clear k0 k1
   exact zq187
 by_cases k3 : c.toNat <= 70
 . have l0 : 65 <= c.toNat := by omega
   have vv : Byt.hexv c = c.toNat - 55 := by unfold Byt.hexv; rw [if_neg (by omega), if_neg (by omega), if_pos (by omega)]
   have vd : Byt.dig c = false := zq0
   rw [vv]
   clear k0 k1 k2
   exact zq187
 by_cases k4 : c.toNat <= 96
 . have l0 : 71 <= c.toNat := by omega
   have vv : Byt.hexv c = 16 := zq3
   have vd : Byt.dig c = false := zq0
   rw [vv]
   clear k0 k1 k2 k3
   exact zq187
 by_cases k5 : c.toNat <= 102
 . have l0 : 97 <= c.toNat := by omega
   have vv : Byt.hexv c = c.toNat - 87 := by unfold Byt.hexv; rw [if_neg (by omega), if_pos (by omega)]
   have vd : Byt.dig c = false := zq0
   rw [vv]
   clear k0 k1 k2 k3 k4
   exact zq187
 have l0 : 103 <= c.toNat := by omega
 have vv : Byt.hexv c = 16 := zq3
 have vd : Byt.dig c = false := zq0
 rw [vv]
 clear k0 k1 k2 k3 k4 k5
 exact zq187
namespace Byt
def digs (base : Nat) : Nat -> List UInt8 -> Option Nat
 | acc, [] => some acc
 | acc, c :: l => if base <= hexv c then none else digs base (acc * base + hexv c) l
def rdig (base most : Nat) (l : List UInt8) : Option Nat := if l.length < 1 \/ most < l.length then none else digs base 0 l
end Byt
theorem dropb (s : ByteArray) (i : Nat) (h : i < s.size) : s.data.toList.drop i = s[i] :: s.data.toList.drop (i + 1) := by
 rw [List.drop_eq_getElem_cons (by simpa using h)]; rfl
theorem digs_hit {base acc : Nat} {s : ByteArray} {i : Nat} {T : Option Nat} (hi : i < s.size) (h : Byt.hexv s[i] < base) (hh : Hid (Byt.digs base acc (s.data.toList.drop i) = T)) : Hid (Byt.digs base (acc * base + Byt.hexv s[i]) (s.data.toList.drop (i + 1)) = T) := by
 have := hh.out
 rw [dropb s i hi] at this
 simp only [Byt.digs, if_neg (show ¬ base <= Byt.hexv s[i] by omega)] at this
 exact this
theorem digs_miss {base acc : Nat} {s : ByteArray} {i : Nat} {T : Option Nat} (hi : i < s.size) (h : base <= Byt.hexv s[i]) (hh : Hid (Byt.digs base acc (s.data.toList.drop i) = T)) : T = none := by
 have := hh.out
 rw [dropb s i hi] at this
 simp only [Byt.digs, if_pos h] at this
 exact this.symm
theorem a_readDigits_10 (s : ByteArray) (hs : s.size <= 5000) (w : World) :
 Calls prog 410 #[.string s, .int .i64 10, .int .i64 10] w fun e w' => (∃ o : Option Nat, Hid (Byt.rdig 10 10 s.data.toList = o) /\ o.getD 0 <= 10000000000 /\ e = .returned (.tuple #[.int .i64 (o.getD 0 : Nat), .bool o.isSome])) /\ w' = w := by
 have hlen : s.data.toList.length = s.size := by simp
 by_cases c1 : s.size < 1
 . exact zq188
 by_cases c2 : 10 < s.size
 . exact zq188
 have hr : Byt.rdig 10 10 s.data.toList = Byt.digs 10 0 (s.data.toList.drop 0) := by unfold Byt.rdig; rw [if_neg (by omega)]; rfl
 rw [hr]
 obtain ⟨T, hT⟩ := zn1 (Byt.digs 10 0 (s.data.toList.drop 0))
 rw [<- hT]
 have HT : Hid (Byt.digs 10 0 (s.data.toList.drop 0) = T) := hT.symm
 clear hT hr hlen
 go_enter func410, ntmps410
 go_wp2
 go_loop [8, 9] (fun a d => ∃ i acc : Nat, i <= s.size /\ a = .int .i64 acc /\ d = .int .i64 i /\ Hid (acc + 1 <= 10 ^ i) /\ Hid (Byt.digs 10 acc (s.data.toList.drop i) = T)) (fun _ d => s.size - (intOf d).toNat)
 case atStart => exact ⟨0, 0, by omega, rfl, rfl, (by decide : 0 + 1 <= 10 ^ 0), HT⟩
 case round =>
  obtain ⟨i, acc, hi0, rfl, rfl, hac, hh⟩ := hrel
  have ba : acc <= 10000000000 := by
   have h1 := hac.out
   have h2 : 10 ^ i <= 10 ^ 10 := zq4
   have h3 : ((10 : Nat) ^ 10) = 10000000000 := by decide
   omega
  by_cases hi : i < s.size
  . go_wp2_with fail
    refine (a_digitValue s[i] _).mono ?_
    rintro e w' ⟨rfl, rfl⟩
    obtain ⟨d, hd⟩ := zn1 (Byt.hexv s[i])
    rw [<- hd]
    have HD := hide1 hd
    clear hd
    by_cases hlt : 10 <= d
    . exact zq189
    . have hn := digs_hit hi (by rw [<- HD.out]; omega) hh
      rw [<- HD.out] at hn
      clear hh
      have hac' : Hid (acc * 10 + d + 1 <= 10 ^ (i + 1)) := by
       show _ <= _
       have h1 := hac.out
       have h2 : (acc + 1) * 10 <= 10 ^ i * 10 := Nat.mul_le_mul_right _ h1
       rw [Nat.pow_succ]; omega
      clear hac
      go_wp2
      go_round
      case rel => exact ⟨i + 1, acc * 10 + d, by omega, by go_num, by go_num, hac', hn⟩
      case measure => exact zq191
  . exact zq190
theorem a_readDigits_16 (s : ByteArray) (hs : s.size <= 5000) (w : World) :
 Calls prog 410 #[.string s, .int .i64 16, .int .i64 8] w fun e w' => (∃ o : Option Nat, Hid (Byt.rdig 16 8 s.data.toList = o) /\ o.getD 0 <= 4294967296 /\ e = .returned (.tuple #[.int .i64 (o.getD 0 : Nat), .bool o.isSome])) /\ w' = w := by
 have hlen : s.data.toList.length = s.size := by simp
 by_cases c1 : s.size < 1
 . exact zq188
 by_cases c2 : 8 < s.size
 . exact zq188
 have hr : Byt.rdig 16 8 s.data.toList = Byt.digs 16 0 (s.data.toList.drop 0) := by unfold Byt.rdig; rw [if_neg (by omega)]; rfl
 rw [hr]
 obtain ⟨T, hT⟩ := zn1 (Byt.digs 16 0 (s.data.toList.drop 0))
 rw [<- hT]
 have HT : Hid (Byt.digs 16 0 (s.data.toList.drop 0) = T) := hT.symm
 clear hT hr hlen
 go_enter func410, ntmps410
 go_wp2
 go_loop [8, 9] (fun a d => ∃ i acc : Nat, i <= s.size /\ a = .int .i64 acc /\ d = .int .i64 i /\ Hid (acc + 1 <= 16 ^ i) /\ Hid (Byt.digs 16 acc (s.data.toList.drop i) = T)) (fun _ d => s.size - (intOf d).toNat)
 case atStart => exact ⟨0, 0, by omega, rfl, rfl, (by decide : 0 + 1 <= 16 ^ 0), HT⟩
 case round =>
  obtain ⟨i, acc, hi0, rfl, rfl, hac, hh⟩ := hrel
  have ba : acc <= 4294967296 := by
   have h1 := hac.out
   have h2 : 16 ^ i <= 16 ^ 8 := zq4
   have h3 : ((16 : Nat) ^ 8) = 4294967296 := by decide
   omega
  by_cases hi : i < s.size
  . go_wp2_with fail
    refine (a_digitValue s[i] _).mono ?_
    rintro e w' ⟨rfl, rfl⟩
    obtain ⟨d, hd⟩ := zn1 (Byt.hexv s[i])
    rw [<- hd]
    have HD := hide1 hd
    clear hd
    by_cases hlt : 16 <= d
    . exact zq189
    . have hn := digs_hit hi (by rw [<- HD.out]; omega) hh
      rw [<- HD.out] at hn
      clear hh
      have hac' : Hid (acc * 16 + d + 1 <= 16 ^ (i + 1)) := by
       show _ <= _
       have h1 := hac.out
       have h2 : (acc + 1) * 16 <= 16 ^ i * 16 := Nat.mul_le_mul_right _ h1
       rw [Nat.pow_succ]; omega
      clear hac
      go_wp2
      go_round
      case rel => exact ⟨i + 1, acc * 16 + d, by omega, by go_num, by go_num, hac', hn⟩
      case measure => exact zq191
  . exact zq190
namespace Byt
def rowEnd (l : List UInt8) : Nat := match l with
 | [] => 0
 | c :: l => if inn c = true then rowEnd l + 1 else 0
def isName (l : List UInt8) : Bool := match l with
 | [] => false
 | c :: _ => !(dig c) && l.all nmc
def plain (l : List UInt8) : Option Nat :=
 if 2 < l.length /\ l[0]? = some 48 /\ l[1]? = some 120 then rdig 16 8 (l.drop 2) else rdig 10 10 l
end Byt
theorem rowEnd_le : ∀ l : List UInt8, Byt.rowEnd l <= l.length
 | [] => by simp [Byt.rowEnd]
 | c :: l => by
  have := rowEnd_le l
  simp only [Byt.rowEnd, List.length_cons]; split <;> omega
theorem inn_of (c : UInt8) : Byt.inn c = (Byt.nmc c || ((c.toNat : Int) == 45)) := by
 unfold Byt.inn
 congr 1
 rw [Bool.eq_iff_iff, decide_eq_true_eq, beq_iff_eq]; omega
theorem a_rowEnd (s : ByteArray) (hs : s.size <= 5000) (a : Nat) (ha : a <= s.size) (w : World) :
 CS 218 #[.string s, .int .i64 a] (.int .i64 (a + Byt.rowEnd (s.data.toList.drop a) : Nat)) w := by
 obtain ⟨T, hT⟩ := zn1 (a + Byt.rowEnd (s.data.toList.drop a))
 rw [<- hT]
 have HT := hide1 hT
 clear hT
 go_enter func218, ntmps218
 go_wp2
 go_loop [1] (fun d => ∃ i : Nat, i <= s.size /\ d = .int .i64 i /\ Hid (T = i + Byt.rowEnd (s.data.toList.drop i))) (fun d => s.size - (intOf d).toNat)
 case atStart => exact ⟨a, ha, rfl, HT⟩
 case round =>
  obtain ⟨i, hi0, rfl, hh⟩ := hrel
  by_cases hi : i < s.size
  . rw [dropb s i hi] at hh
    have hin := inn_of s[i]
    cases hn : Byt.nmc s[i]
    . cases h45 : ((s[i].toNat : Int) == 45)
      . have hT : Hid (T = i) := (by rw [hh.out]; simp only [Byt.rowEnd]; rw [hin, hn, h45, if_neg (by decide)]; rfl : T = i)
        clear hh hin
        go_wp2_with (go_at_call 307; refine (a_isNameByte _ _).mono ?_; rintro e w' ⟨rfl, rfl⟩)
        exact zq192
      . have hv : Hid (T = i + 1 + Byt.rowEnd (s.data.toList.drop (i + 1))) := (by rw [hh.out]; simp only [Byt.rowEnd]; rw [hin, hn, h45, if_pos (by rfl)]; omega : _ = _)
        exact zq193
    . have hv : Hid (T = i + 1 + Byt.rowEnd (s.data.toList.drop (i + 1))) := (by rw [hh.out]; simp only [Byt.rowEnd]; rw [hin, hn, if_pos (by rfl)]; omega : _ = _)
      exact zq193
  . obtain rfl : i = s.size := by omega
    have hd : s.data.toList.drop s.size = [] := zq5
    rw [hd] at hh
    have hT : Hid (T = s.size) := hh
    have hlt : decide ((s.size : Int) < (s.size : Int)) = false := by simp
    clear hh hd
    exact zq194
theorem empty_of {s : ByteArray} (h : s.size = 0) : s.toList.isEmpty = true := by
 rw [Lib.toList_data, List.isEmpty_iff]; exact List.eq_nil_of_length_eq_zero (by simpa using h)
theorem nonempty_of {s : ByteArray} (h : 0 < s.size) : s.toList.isEmpty = false := by
 rw [Lib.toList_data]
 cases hd : s.data.toList with
 | nil =>
  have : s.data.toList.length = s.size := by simp
  rw [hd] at this; simp at this; omega
 | cons a l => rfl
theorem a_isName (s : ByteArray) (hs : s.size <= 5000) (w : World) :
 CS 220 #[.string s] (.bool (Byt.isName s.data.toList)) w := by
 by_cases h0 : s.size = 0
 . have hl : s.data.toList = [] := List.eq_nil_of_length_eq_zero (by simpa using h0)
   have he := empty_of h0
   rw [show Byt.isName s.data.toList = false by rw [hl]; rfl]
   clear hl h0
   go_enter func220, ntmps220
   exact zq195
 . have hp : 0 < s.size := by omega
   have he := nonempty_of hp
   have hn : Byt.isName s.data.toList = (!(Byt.dig s[0]) && (s.data.toList.drop 0).all Byt.nmc) := by
    have h := dropb s 0 hp
    rw [List.drop_zero] at h
    conv => lhs; rw [h]
    simp only [Byt.isName]
    rw [<- h]; rfl
   rw [hn]
   clear hn h0
   cases hd : Byt.dig s[0]
   . rw [Bool.not_false, Bool.true_and]
     obtain ⟨T, hT⟩ := zn1 ((s.data.toList.drop 0).all Byt.nmc)
     rw [<- hT]
     have HT := hide1 hT
     clear hT
     go_enter func220, ntmps220
     go_wp2_with (go_at_call 308; refine (a_isDigit _ _).mono ?_; rintro e w' ⟨rfl, rfl⟩)
     go_loop [3] (fun d => ∃ i : Nat, i <= s.size /\ d = .int .i64 i /\ Hid (T = (s.data.toList.drop i).all Byt.nmc)) (fun d => s.size - (intOf d).toNat)
     case atStart => exact ⟨0, by omega, rfl, HT⟩
     case round =>
      obtain ⟨i, hi0, rfl, hh⟩ := hrel
      by_cases hi : i < s.size
      . rw [dropb s i hi, show (s[i] :: s.data.toList.drop (i + 1)).all Byt.nmc = (Byt.nmc s[i] && (s.data.toList.drop (i + 1)).all Byt.nmc) from rfl] at hh
        cases hn : Byt.nmc s[i]
        . rw [hn, Bool.false_and] at hh
          go_wp2_with (go_at_call 307; refine (a_isNameByte _ _).mono ?_; rintro e w' ⟨rfl, rfl⟩)
          go_ret
          exact ⟨by rw [hh.out]; rfl, rfl⟩
        . rw [hn, Bool.true_and] at hh
          go_wp2_with (go_at_call 307; refine (a_isNameByte _ _).mono ?_; rintro e w' ⟨rfl, rfl⟩)
          go_round
          case rel => exact ⟨i + 1, by omega, by go_num, hh⟩
          case measure => exact zq191
      . obtain rfl : i = s.size := by omega
        have hdr : s.data.toList.drop s.size = [] := zq5
        rw [hdr] at hh
        have hT : Hid (T = true) := hh
        clear hh hdr
        exact zq194
   . go_enter func220, ntmps220
     go_wp2_with (go_at_call 308; refine (a_isDigit _ _).mono ?_; rintro e w' ⟨rfl, rfl⟩)
     exact zq196
theorem get0 (s : ByteArray) (i : Nat) (h : i < s.size) : s.data.toList[i]? = some s[i] := by
 rw [List.getElem?_eq_getElem (by simpa using h)]; rfl
theorem u8e {c : UInt8} {n : Nat} (hn : n < 256) : (c.toNat : Int) = n ↔ c = UInt8.ofNat n := zq197
theorem plain_hex {s : ByteArray} (h : 2 < s.size) (h0 : ((s[0].toNat : Int) == 48) = true) (h1 : ((s[1].toNat : Int) == 120) = true) : Byt.plain s.data.toList = Byt.rdig 16 8 (s.extract 2 s.size).data.toList := by
 unfold Byt.plain
 replace h0 := (u8e (n := 48) (by decide)).1 (beq_iff_eq.1 h0)
 replace h1 := (u8e (n := 120) (by decide)).1 (beq_iff_eq.1 h1)
 rw [if_pos ⟨by simpa using h, by rw [get0 s 0 (by omega), h0]; rfl, by rw [get0 s 1 (by omega), h1]; rfl⟩, Lib.extract_to_end]
theorem plain_dec1 {s : ByteArray} (h : ¬ 2 < s.size) : Byt.plain s.data.toList = Byt.rdig 10 10 s.data.toList := by
 unfold Byt.plain; rw [if_neg (fun hh => h (by simpa using hh.1))]
theorem plain_dec2 {s : ByteArray} (h : 2 < s.size) (h0 : ((s[0].toNat : Int) == 48) = false) : Byt.plain s.data.toList = Byt.rdig 10 10 s.data.toList := by
 unfold Byt.plain
 replace h0 := fun e => (beq_eq_false_iff_ne.1 h0) ((u8e (n := 48) (by decide)).2 e)
 rw [if_neg (fun hh => h0 (by have := hh.2.1; rw [get0 s 0 (by omega)] at this; exact Option.some.inj this))]
theorem plain_dec3 {s : ByteArray} (h : 2 < s.size) (h1 : ((s[1].toNat : Int) == 120) = false) : Byt.plain s.data.toList = Byt.rdig 10 10 s.data.toList := by
 unfold Byt.plain
 replace h1 := fun e => (beq_eq_false_iff_ne.1 h1) ((u8e (n := 120) (by decide)).2 e)
 rw [if_neg (fun hh => h1 (by have := hh.2.2; rw [get0 s 1 (by omega)] at this; exact Option.some.inj this))]
theorem a_readPlain (s : ByteArray) (hs : s.size <= 5000) (w : World) :
 Calls prog 387 #[.string s] w fun e w' => (∃ o : Option Nat, Hid (Byt.plain s.data.toList = o) /\ o.getD 0 <= 10000000000 /\ e = .returned (.tuple #[.int .i64 (o.getD 0 : Nat), .bool o.isSome])) /\ w' = w := by
 by_cases c1 : 2 < s.size
 . cases h0 : ((s[0].toNat : Int) == 48)
   . have HP := hide1 (plain_dec2 c1 h0)
     exact zq198
   . cases h1 : ((s[1].toNat : Int) == 120)
     . have HP := hide1 (plain_dec3 c1 h1)
       exact zq198
     . have HP := hide1 (plain_hex c1 h0 h1)
       go_enter func387, ntmps387
       go_wp2_with fail
       refine (a_readDigits_16 (s.extract 2 s.size) (by simp; omega) _).mono ?_
       exact zq199
 . have HP := hide1 (plain_dec1 c1)
   exact zq198
namespace Byt
def number (l : List UInt8) : Int × Bool :=
 if l[0]? = some 45 then (-(((plain (l.drop 1)).getD 0 : Nat) : Int), (plain (l.drop 1)).isSome) else ((((plain l).getD 0 : Nat) : Int), (plain l).isSome)
end Byt
theorem number_neg {s : ByteArray} (h : 0 < s.size) (h0 : ((s[0].toNat : Int) == 45) = true) : Byt.number s.data.toList = (-(((Byt.plain (s.extract 1 s.size).data.toList).getD 0 : Nat) : Int), (Byt.plain (s.extract 1 s.size).data.toList).isSome) := by
 replace h0 := (u8e (n := 45) (by decide)).1 (beq_iff_eq.1 h0)
 unfold Byt.number
 rw [if_pos (by rw [get0 s 0 h, h0]; rfl), Lib.extract_to_end]
theorem number_pos {s : ByteArray} (h : ¬ (0 < s.size) \/ ∃ h : 0 < s.size, ((s[0].toNat : Int) == 45) = false) : Byt.number s.data.toList = ((((Byt.plain s.data.toList).getD 0 : Nat) : Int), (Byt.plain s.data.toList).isSome) := by
 unfold Byt.number
 rw [if_neg]
 intro hh
 rcases h with h | ⟨h, h0⟩
 . rw [List.getElem?_eq_none (by simp at h; simp [h])] at hh; cases hh
 . replace h0 := fun e => (beq_eq_false_iff_ne.1 h0) ((u8e (n := 45) (by decide)).2 e)
   rw [get0 s 0 h] at hh
   exact h0 (Option.some.inj hh)
theorem a_readNumber (s : ByteArray) (hs : s.size <= 5000) (w : World) :
 CS 357 #[.string s] (.tuple #[.int .i64 (Byt.number s.data.toList).1, .bool (Byt.number s.data.toList).2]) w := by
 by_cases c1 : 0 < s.size
 . cases h0 : ((s[0].toNat : Int) == 45)
   . have HP := hide1 (number_pos (.inr ⟨c1, h0⟩))
     exact zq200
   . have HP := hide1 (number_neg c1 h0)
     go_enter func357, ntmps357
     go_wp2_with fail
     refine (a_readPlain (s.extract 1 s.size) (by simp; omega) _).mono ?_
     exact zq201
 . have HP := hide1 (number_pos (.inl c1))
   have c2 : decide ((0 : Int) < (s.size : Int)) = false := by rw [decide_eq_false_iff_not]; omega
   exact zq200
namespace Byt
def tok : Nat -> List UInt8 -> List (List UInt8)
 | 0, _ => []
 | _ + 1, [] => []
 | f + 1, c :: l => if c.toNat = 35 then [] else if 0 < rowEnd (c :: l) then (c :: l).take (rowEnd (c :: l)) :: tok f ((c :: l).drop (rowEnd (c :: l))) else if blank c = true then tok f l else [c] :: tok f l
def strV (t : List UInt8) : Value := .string ⟨t.toArray⟩
end Byt
theorem tok_more : ∀ (f g : Nat) (l : List UInt8), l.length <= f -> l.length <= g -> Byt.tok f l = Byt.tok g l
 | 0, 0, _, _, _ => rfl
 | 0, g + 1, [], _, _ => rfl
 | f + 1, 0, [], _, _ => rfl
 | 0, _ + 1, c :: l, h, _ => by simp at h
 | _ + 1, 0, c :: l, _, h => by simp at h
 | f + 1, g + 1, [], _, _ => rfl
 | f + 1, g + 1, c :: l, h1, h2 => by
  simp only [List.length_cons] at h1 h2
  simp only [Byt.tok]
  by_cases c1 : c.toNat = 35
  . rw [if_pos c1, if_pos c1]
  . rw [if_neg c1, if_neg c1]
    by_cases c2 : 0 < Byt.rowEnd (c :: l)
    . rw [if_pos c2, if_pos c2, tok_more f g _ (by simp; omega) (by simp; omega)]
    . rw [if_neg c2, if_neg c2, tok_more f g l (by omega) (by omega)]
theorem ext_str (s : ByteArray) (a b : Nat) : Value.string (s.extract a b) = Byt.strV ((s.data.toList.drop a).take (b - a)) := by
 unfold Byt.strV
 congr 1
 have h := Lib.extract_data s a b
 cases hd : s.extract a b with
 | mk d =>
  rw [hd] at h
  simp only at h
  rw [<- h]
theorem Tryz.info9 : (prog.info? 9).map (fun i => (i.zero, i.size, i.bytes)) = some (some (.string ⟨#[]⟩), 1, 16) := by kernel_rfl
theorem slice_mid (s : ByteArray) (a b : Nat) (h1 : a <= b) (h2 : b <= s.size) (w : World) : (Instr.slice 9 (.string s) (some (.int .i64 (a : Int))) (some (.int .i64 (b : Int))) none).run prog w = .ok (.string (s.extract a b)) w := by
 rw [run_slice_string w 9 s .i64 .i64 a b Tryz.underlying9 (by omega) (by omega) (by omega)]
 simp
theorem a_tokens (s : ByteArray) (hs : s.size <= 5000) (w : World) :
 Calls prog 151 #[.string s] w fun e w' => ∃ v, e = .returned v /\ v ≠ .slice none 0 0 /\ w'.ownsRow w.heap.size 9 1 v (Byt.tok s.size s.data.toList).length ((Byt.tok s.size s.data.toList).map Byt.strV) /\ Below w.heap.size w w' := by
 have hmk : ∀ w, (Instr.makeSlice 162 (.int .i64 0) (.int .i64 0)).run prog w = .ok (.slice (some ⟨w.heap.size, 0, none⟩) 0 0) (w.alloc (.cells #[] 9)) := fun _ => by kernel_rfl
 obtain ⟨i0, hi, hz0, hz1, hz2⟩ := info_parts Tryz.info9
 obtain ⟨T, hT⟩ := zn1 (Byt.tok s.size s.data.toList)
 rw [<- hT]
 have HT := hide1 hT
 clear hT
 go_enter func151, ntmps151
 go_wp2
 go_loopw [3, 4] (fun v d wr => ∃ (a : Nat) (p : List (List UInt8)), a <= s.size /\ p.length <= a /\ d = .int .i64 a /\ v ≠ .slice none 0 0 /\ wr.ownsRow w.heap.size 9 1 v p.length (p.map Byt.strV) /\ Below w.heap.size w wr /\ Hid (T = p ++ Byt.tok (s.size - a) (s.data.toList.drop a))) (fun _ d _ => s.size - (intOf d).toNat)
 case atStart => exact ⟨0, [], by omega, by simp, rfl, by simp, World.ownsRow_made w _ 0 (Nat.le_refl _) zq490 rfl, (Below.refl _ _).alloc (Nat.le_refl _) _, HT⟩
 case round =>
  obtain ⟨a, p, ha, hpl, rfl, hnn, hown, hb, hh⟩ := hrel
  by_cases hlt : a < s.size
  . have hdr := dropb s a hlt
    have hf : s.size - a = (s.size - a - 1) + 1 := by omega
    have hbs := hb.size
    have hrow : ∀ j, u3.ownBlock = some j -> w.heap.size <= j := fun j hj => (hown.lt j hj).1
    by_cases c35 : s[a].toNat = 35
    . have c35' : ((s[a].toNat : Int) != 35) = false := by simp; omega
      have hT : Hid (T = p) := (by rw [hh.out, hdr, hf]; simp only [Byt.tok]; rw [if_pos c35]; simp : T = p)
      clear hh hdr hf c35
      go_wp2
      go_ret
      exact ⟨_, rfl, hnn, by rw [hT.out]; exact hown, hb⟩
    . have c35' : ((s[a].toNat : Int) != 35) = true := by simp; omega
      have hre : Byt.rowEnd (s.data.toList.drop a) <= s.size - a := by have := rowEnd_le (s.data.toList.drop a); simp at this; exact this
      obtain ⟨r, hr⟩ := zn1 (Byt.rowEnd (s.data.toList.drop a))
      rw [<- hr] at hre
      have HR := hide1 hr
      have hstep : T = p ++ (if 0 < r then (s.data.toList.drop a).take r :: Byt.tok (s.size - a - 1) ((s.data.toList.drop a).drop r) else if Byt.blank s[a] = true then Byt.tok (s.size - a - 1) (s.data.toList.drop (a + 1)) else [s[a]] :: Byt.tok (s.size - a - 1) (s.data.toList.drop (a + 1))) := by
       rw [hh.out, hr, hf, hdr]; simp only [Byt.tok]; rw [if_neg c35]; simp only [Nat.add_sub_cancel]
      clear hr hh hdr hf c35
      have HS := hide1 hstep
      clear hstep
      go_wp2_with fail
      refine (a_rowEnd s hs a (by omega) _).mono ?_
      rintro e w' ⟨rfl, rfl⟩
      rw [<- HR.out]
      clear HR
      obtain ⟨E, hE⟩ := zn1 (a + r)
      rw [<- hE]
      have HE := hide1 hE
      have hE1 : E <= s.size := by omega
      by_cases hr0 : 0 < r
      . have hE2 : a < E := by omega
        clear hE
        have hv : Hid (T = (p ++ [(s.data.toList.drop a).take r]) ++ Byt.tok (s.size - E) (s.data.toList.drop E)) := by
         show T = _
         rw [HE.out, HS.out, if_pos hr0, List.drop_drop, tok_more (s.size - a - 1) (s.size - (a + r)) _ (by simp; omega) (by simp)]
         simp
        clear HS hre hr0
        obtain ⟨X, hX⟩ := zn1 (s.extract a E)
        have hsl : ∀ w, (Instr.slice 9 (.string s) (some (.int .i64 (a : Int))) (some (.int .i64 (E : Int))) none).run prog w = .ok (.string X) w := by
         intro w; rw [hX]; exact slice_mid s a E (by omega) hE1 w
        have HX := hide1 hX
        clear hX
        go_wp2_with (at_builtin; refine wpList_append_own _ rfl (.tmp 34) (.tmp 39) 162 rfl w.heap.size 9 i0 (.string ⟨#[]⟩) 1 16 Tryz.underlying162 hi hz0 hz1 hz2 rfl (by decide) _ _ _ rfl (hown.alloc _) ⟨w'.heap.size, 0, none⟩ 1 1 [.string X] rfl rfl ?c1 ?c2 ?c3 ?c4 ?c5 ?_)
        case c1 =>
         exact zq202
        case c2 => exact zq203
        case c3 => unfold maxLen; omega
        case c4 => omega
        case c5 => simp; omega
        intro v' w1 hown' hgrow hnil
        have hnn' : v' ≠ .slice none 0 0 := fun h => hnil h
        clear hnil
        have hrow2 : Below w.heap.size w w1 := (hb.alloc hbs _).grown hgrow (by simp; omega) hrow
        clear hown hgrow
        rw [HX.out, ext_str, show E - a = r by have := HE.out; omega] at hown'
        go_wp2
        go_roundw
        case rel => exact ⟨E, p ++ [(s.data.toList.drop a).take r], by omega, by simp; omega, by go_num, hnn', by simpa using hown', hrow2, hv⟩
        case measure => exact zq191
      . obtain rfl : r = 0 := by omega
        have hEa : E = a := by omega
        rw [hEa]
        clear hE HE hE1 hEa
        rw [if_neg (by omega)] at HS
        cases hbl : Byt.blank s[a]
        . rw [hbl, if_neg (by decide)] at HS
          have hv : Hid (T = (p ++ [[s[a]]]) ++ Byt.tok (s.size - (a + 1)) (s.data.toList.drop (a + 1))) := by
           show T = _
           rw [HS.out, show s.size - (a + 1) = s.size - a - 1 by omega]; simp
          clear HS
          have h1 : (s.data.toList.drop a).take 1 = [s[a]] := by rw [dropb s a hlt]; rfl
          have H1 := hide1 h1
          clear h1
          obtain ⟨X, hX⟩ := zn1 (s.extract a (a + 1))
          have hsl : ∀ w, (Instr.slice 9 (.string s) (some (.int .i64 (a : Int))) (some (.int .i64 ((a : Int) + 1))) none).run prog w = .ok (.string X) w := by
           intro w; rw [hX]; exact slice_mid s a (a + 1) (by omega) (by omega) w
          have HX := hide1 hX
          clear hX
          go_wp2_with (first | (go_at_call 219; refine (a_isBlank _ _).mono ?_; rintro e w2 ⟨rfl, rfl⟩) | (at_builtin; refine wpList_append_own _ rfl (.tmp 20) (.tmp 26) 162 rfl w.heap.size 9 i0 (.string ⟨#[]⟩) 1 16 Tryz.underlying162 hi hz0 hz1 hz2 rfl (by decide) _ _ _ rfl (hown.alloc _) ⟨_, 0, none⟩ 1 1 [.string X] rfl rfl ?c1 ?c2 ?c3 ?c4 ?c5 ?_))
          case c1 =>
           exact zq202
          case c2 => exact zq203
          case c3 => unfold maxLen; omega
          case c4 => omega
          case c5 => simp; omega
          intro v' w1 hown' hgrow hnil
          have hnn' : v' ≠ .slice none 0 0 := fun h => hnil h
          clear hnil
          have hrow2 : Below w.heap.size w w1 := (hb.alloc hbs _).grown hgrow (by simp; omega) hrow
          clear hown hgrow
          rw [HX.out, ext_str, show a + 1 - a = 1 by omega, H1.out] at hown'
          go_wp2
          go_roundw
          case rel => exact ⟨a + 1, p ++ [[s[a]]], by omega, by simp; omega, by go_num, hnn', by simpa using hown', hrow2, hv⟩
          case measure => exact zq191
        . rw [hbl, if_pos rfl] at HS
          have hv : Hid (T = p ++ Byt.tok (s.size - (a + 1)) (s.data.toList.drop (a + 1))) := by
           show T = _
           rw [HS.out, show s.size - (a + 1) = s.size - a - 1 by omega]
          clear HS
          go_wp2_with (go_at_call 219; refine (a_isBlank _ _).mono ?_; rintro e w2 ⟨rfl, rfl⟩)
          go_roundw
          case rel => exact ⟨a + 1, p, by omega, by omega, by go_num, hnn, hown, hb, hv⟩
          case measure => exact zq191
  . have hlt' : decide ((a : Int) < (s.size : Int)) = false := by simp; omega
    have hT : Hid (T = p) := (by rw [hh.out, show s.size - a = 0 by omega]; simp [Byt.tok] : T = p)
    clear hh
    go_wp2
    go_ret
    exact ⟨_, rfl, hnn, by rw [hT.out]; exact hown, hb⟩
namespace Nm
def nameLast (op : Int) : ByteArray :=
 bif op == 55 then ⟨#[97, 109, 111, 97, 110, 100, 46, 119]⟩ else
 bif op == 56 then ⟨#[97, 109, 111, 111, 114, 46, 119]⟩ else
 bif op == 57 then ⟨#[97, 109, 111, 109, 105, 110, 46, 119]⟩ else
 bif op == 58 then ⟨#[97, 109, 111, 109, 97, 120, 46, 119]⟩ else
 bif op == 59 then ⟨#[97, 109, 111, 109, 105, 110, 117, 46, 119]⟩ else
 bif op == 60 then ⟨#[97, 109, 111, 109, 97, 120, 117, 46, 119]⟩ else
 bif op == 61 then ⟨#[99, 115, 114, 114, 119]⟩ else
 bif op == 62 then ⟨#[99, 115, 114, 114, 115]⟩ else
 bif op == 63 then ⟨#[99, 115, 114, 114, 99]⟩ else
 bif op == 64 then ⟨#[99, 115, 114, 114, 119, 105]⟩ else
 bif op == 65 then ⟨#[99, 115, 114, 114, 115, 105]⟩ else
 bif op == 66 then ⟨#[99, 115, 114, 114, 99, 105]⟩ else
 bif op == 67 then ⟨#[109, 114, 101, 116]⟩ else
 bif op == 68 then ⟨#[115, 114, 101, 116]⟩ else
 bif op == 69 then ⟨#[119, 102, 105]⟩ else
 bif op == 70 then ⟨#[115, 102, 101, 110, 99, 101, 46, 118, 109, 97]⟩ else
 bif op == 71 then ⟨#[46, 119, 111, 114, 100]⟩ else
 bif op == 72 then ⟨#[46, 104, 97, 108, 102]⟩ else
 ⟨#[]⟩
def nameFourth (op : Int) : ByteArray :=
 bif op == 37 then ⟨#[97, 110, 100]⟩ else
 bif op == 38 then ⟨#[102, 101, 110, 99, 101]⟩ else
 bif op == 39 then ⟨#[102, 101, 110, 99, 101, 46, 105]⟩ else
 bif op == 40 then ⟨#[101, 99, 97, 108, 108]⟩ else
 bif op == 41 then ⟨#[101, 98, 114, 101, 97, 107]⟩ else
 bif op == 42 then ⟨#[109, 117, 108]⟩ else
 bif op == 43 then ⟨#[109, 117, 108, 104]⟩ else
 bif op == 44 then ⟨#[109, 117, 108, 104, 115, 117]⟩ else
 bif op == 45 then ⟨#[109, 117, 108, 104, 117]⟩ else
 bif op == 46 then ⟨#[100, 105, 118]⟩ else
 bif op == 47 then ⟨#[100, 105, 118, 117]⟩ else
 bif op == 48 then ⟨#[114, 101, 109]⟩ else
 bif op == 49 then ⟨#[114, 101, 109, 117]⟩ else
 bif op == 50 then ⟨#[108, 114, 46, 119]⟩ else
 bif op == 51 then ⟨#[115, 99, 46, 119]⟩ else
 bif op == 52 then ⟨#[97, 109, 111, 115, 119, 97, 112, 46, 119]⟩ else
 bif op == 53 then ⟨#[97, 109, 111, 97, 100, 100, 46, 119]⟩ else
 bif op == 54 then ⟨#[97, 109, 111, 120, 111, 114, 46, 119]⟩ else
 nameLast op
def nameThird (op : Int) : ByteArray :=
 bif op == 28 then ⟨#[97, 100, 100]⟩ else
 bif op == 29 then ⟨#[115, 117, 98]⟩ else
 bif op == 30 then ⟨#[115, 108, 108]⟩ else
 bif op == 31 then ⟨#[115, 108, 116]⟩ else
 bif op == 32 then ⟨#[115, 108, 116, 117]⟩ else
 bif op == 33 then ⟨#[120, 111, 114]⟩ else
 bif op == 34 then ⟨#[115, 114, 108]⟩ else
 bif op == 35 then ⟨#[115, 114, 97]⟩ else
 bif op == 36 then ⟨#[111, 114]⟩ else
 nameFourth op
def nameSecond (op : Int) : ByteArray :=
 bif op == 19 then ⟨#[97, 100, 100, 105]⟩ else
 bif op == 20 then ⟨#[115, 108, 116, 105]⟩ else
 bif op == 21 then ⟨#[115, 108, 116, 105, 117]⟩ else
 bif op == 22 then ⟨#[120, 111, 114, 105]⟩ else
 bif op == 23 then ⟨#[111, 114, 105]⟩ else
 bif op == 24 then ⟨#[97, 110, 100, 105]⟩ else
 bif op == 25 then ⟨#[115, 108, 108, 105]⟩ else
 bif op == 26 then ⟨#[115, 114, 108, 105]⟩ else
 bif op == 27 then ⟨#[115, 114, 97, 105]⟩ else
 nameThird op
def name (op : Int) : ByteArray :=
 bif op == 1 then ⟨#[108, 117, 105]⟩ else
 bif op == 2 then ⟨#[97, 117, 105, 112, 99]⟩ else
 bif op == 3 then ⟨#[106, 97, 108]⟩ else
 bif op == 4 then ⟨#[106, 97, 108, 114]⟩ else
 bif op == 5 then ⟨#[98, 101, 113]⟩ else
 bif op == 6 then ⟨#[98, 110, 101]⟩ else
 bif op == 7 then ⟨#[98, 108, 116]⟩ else
 bif op == 8 then ⟨#[98, 103, 101]⟩ else
 bif op == 9 then ⟨#[98, 108, 116, 117]⟩ else
 bif op == 10 then ⟨#[98, 103, 101, 117]⟩ else
 bif op == 11 then ⟨#[108, 98]⟩ else
 bif op == 12 then ⟨#[108, 104]⟩ else
 bif op == 13 then ⟨#[108, 119]⟩ else
 bif op == 14 then ⟨#[108, 98, 117]⟩ else
 bif op == 15 then ⟨#[108, 104, 117]⟩ else
 bif op == 16 then ⟨#[115, 98]⟩ else
 bif op == 17 then ⟨#[115, 104]⟩ else
 bif op == 18 then ⟨#[115, 119]⟩ else
 nameSecond op
def shape (op : Int) : ByteArray :=
 bif op == 1 || op == 2 then ⟨#[100, 105]⟩ else
 bif op == 3 then ⟨#[100, 106]⟩ else
 bif op == 4 then ⟨#[100, 109]⟩ else
 bif decide (5 <= op) && decide (op <= 10) then ⟨#[115, 116, 106]⟩ else
 bif decide (11 <= op) && decide (op <= 15) then ⟨#[100, 109]⟩ else
 bif decide (16 <= op) && decide (op <= 18) then ⟨#[116, 109]⟩ else
 bif (decide (19 <= op) && decide (op <= 27)) || op == 38 || op == 39 || op == 50 then ⟨#[100, 115, 105]⟩ else
 bif (decide (28 <= op) && decide (op <= 37)) || (decide (42 <= op) && decide (op <= 49)) then ⟨#[100, 115, 116]⟩ else
 bif decide (51 <= op) && decide (op <= 60) then ⟨#[100, 116, 115, 105]⟩ else
 bif decide (61 <= op) && decide (op <= 63) then ⟨#[100, 105, 115]⟩ else
 bif decide (64 <= op) && decide (op <= 66) then ⟨#[100, 105, 117]⟩ else
 bif op == 70 then ⟨#[115, 116]⟩ else
 bif op == 71 || op == 72 then ⟨#[105]⟩ else ⟨#[]⟩
end Nm
theorem a_nameLast (op : Int) (w : World) :
 CS 404 #[.int .i64 op] (.string (Nm.nameLast op)) w := by
 go_enter func404, ntmps404
 go_wp2
 all_goals go_ret
 all_goals exact ⟨by simp [Nm.nameLast, *], rfl⟩
theorem a_nameFourth (op : Int) (w : World) :
 CS 381 #[.int .i64 op] (.string (Nm.nameFourth op)) w := by
 go_enter func381, ntmps381
 go_wp2_with (go_at_call 404; refine (a_nameLast op _).mono ?_; rintro e w' ⟨rfl, rfl⟩)
 all_goals go_ret
 all_goals exact ⟨by simp [Nm.nameFourth, *], rfl⟩
theorem a_nameThird (op : Int) (w : World) :
 CS 353 #[.int .i64 op] (.string (Nm.nameThird op)) w := by
 go_enter func353, ntmps353
 go_wp2_with (go_at_call 381; refine (a_nameFourth op _).mono ?_; rintro e w' ⟨rfl, rfl⟩)
 all_goals go_ret
 all_goals exact ⟨by simp [Nm.nameThird, *], rfl⟩
theorem a_nameSecond (op : Int) (w : World) :
 CS 301 #[.int .i64 op] (.string (Nm.nameSecond op)) w := by
 go_enter func301, ntmps301
 go_wp2_with (go_at_call 353; refine (a_nameThird op _).mono ?_; rintro e w' ⟨rfl, rfl⟩)
 all_goals go_ret
 all_goals exact ⟨by simp [Nm.nameSecond, *], rfl⟩
theorem a_Name (op : Int) (w : World) :
 CS 212 #[.int .i64 op] (.string (Nm.name op)) w := by
 go_enter func212, ntmps212
 go_wp2_with (go_at_call 301; refine (a_nameSecond op _).mono ?_; rintro e w' ⟨rfl, rfl⟩)
 all_goals go_ret
 all_goals exact ⟨by simp [Nm.name, *], rfl⟩
theorem shape_ways (op : Int) : Nm.shape op =
 if op = 1 \/ op = 2 then ⟨#[100, 105]⟩ else
 if op = 3 then ⟨#[100, 106]⟩ else
 if op = 4 then ⟨#[100, 109]⟩ else
 if 5 <= op /\ op <= 10 then ⟨#[115, 116, 106]⟩ else
 if 11 <= op /\ op <= 15 then ⟨#[100, 109]⟩ else
 if 16 <= op /\ op <= 18 then ⟨#[116, 109]⟩ else
 if (19 <= op /\ op <= 27) \/ op = 38 \/ op = 39 \/ op = 50 then ⟨#[100, 115, 105]⟩ else
 if (28 <= op /\ op <= 37) \/ (42 <= op /\ op <= 49) then ⟨#[100, 115, 116]⟩ else
 if 51 <= op /\ op <= 60 then ⟨#[100, 116, 115, 105]⟩ else
 if 61 <= op /\ op <= 63 then ⟨#[100, 105, 115]⟩ else
 if 64 <= op /\ op <= 66 then ⟨#[100, 105, 117]⟩ else
 if op = 70 then ⟨#[115, 116]⟩ else
 if op = 71 \/ op = 72 then ⟨#[105]⟩ else ⟨#[]⟩ := by
 unfold Nm.shape
 simp only [Bool.cond_eq_ite, Bool.or_eq_true, Bool.and_eq_true, decide_eq_true_eq, beq_iff_eq, or_assoc]
theorem a_Shape (op : Int) (w : World) :
 CS 215 #[.int .i64 op] (.string (Nm.shape op)) w := by
 go_enter func215, ntmps215
 go_wp2
 all_goals go_ret
 all_goals go_light
 all_goals refine ⟨congrArg (fun s => Ending.returned (Value.string s)) (?_ : _ = Nm.shape op), rfl⟩
 all_goals try simp only [beq_iff_eq, beq_eq_false_iff_ne, ne_eq] at *
 all_goals first | (exfalso; omega) | (rw [shape_ways]; repeat (first | rw [if_pos (by omega)] | rw [if_neg (by omega)]))
def sgn (a : Int) : Int := if 2147483648 <= a then a - 4294967296 else a
theorem or_and : ∀ (n a b : Nat), a <= n -> (a ||| b) + (a &&& b) = a + b
 | 0, a, b, h => by
  obtain rfl : a = 0 := by omega
  simp
 | n + 1, a, b, h => by
  by_cases hz : a = 0
  . subst hz; simp
  have ih := or_and n (a / 2) (b / 2) (by omega)
  have h1 : (a ||| b) / 2 = a / 2 ||| b / 2 := Nat.or_div_two
  have h2 : (a &&& b) / 2 = a / 2 &&& b / 2 := Nat.and_div_two
  have h3 : (a ||| b) % 2 = 1 ↔ a % 2 = 1 \/ b % 2 = 1 := Nat.or_mod_two_eq_one
  have h4 : (a &&& b) % 2 = 1 ↔ a % 2 = 1 /\ b % 2 = 1 := Nat.and_mod_two_eq_one
  omega
theorem ndiv (a p : Nat) : (a : Int).tdiv (p : Int) = ((a / p : Nat) : Int) := by rw [Int.tdiv_eq_ediv_of_nonneg (by omega)]; simp
def wout (a b : Nat) : Nat := a - (a &&& b)
def wordN (x : Int) : Nat := (x % 4294967296).toNat
theorem wordN_cast (x : Int) : ((wordN x : Nat) : Int) = x % 4294967296 := by unfold wordN; omega
def alu_add (a b : Nat) : Nat := (a + b) % 4294967296
def alu_sub (a b : Nat) : Nat := wordN ((a : Int) - b)
def alu_slt (a b : Nat) : Nat := if sgn a < sgn b then 1 else 0
def alu_sltu (a b : Nat) : Nat := if a < b then 1 else 0
def alu_xor (a b : Nat) : Nat := a ^^^ b
def alu_or (a b : Nat) : Nat := a ||| b
def alu_and (a b : Nat) : Nat := a &&& b
def alu_sll (a b : Nat) : Nat := a * 2 ^ (b % 32) % 4294967296
def alu_srl (a b : Nat) : Nat := a / 2 ^ (b % 32)
def alu_sra (a b : Nat) : Nat := wordN (sgn a / ((2 ^ (b % 32) : Nat) : Int))
def alu_mul (a b : Nat) : Nat := a * b % 4294967296
def alu_mulh (a b : Nat) : Nat := wordN (sgn a * sgn b / 4294967296)
def alu_mulhsu (a b : Nat) : Nat := wordN (sgn a * b / 4294967296)
def alu_mulhu (a b : Nat) : Nat := a * b / 4294967296
def alu_div (a b : Nat) : Nat := if b = 0 then 4294967295 else wordN ((sgn a).tdiv (sgn b))
def alu_divu (a b : Nat) : Nat := if b = 0 then 4294967295 else a / b
def alu_rem (a b : Nat) : Nat := if b = 0 then a else wordN (sgn a - (sgn a).tdiv (sgn b) * sgn b)
def alu_remu (a b : Nat) : Nat := if b = 0 then a else a % b
def alu_swap (_ b : Nat) : Nat := b
def alu_min (a b : Nat) : Nat := if sgn a < sgn b then a else b
def alu_max (a b : Nat) : Nat := if sgn b < sgn a then a else b
def alu_minu (a b : Nat) : Nat := if a < b then a else b
def alu_maxu (a b : Nat) : Nat := if b < a then a else b
def alu (op : Int) (a b : Nat) : Nat :=
 if op = 19 \/ op = 28 \/ op = 53 then alu_add a b else
 if op = 29 then alu_sub a b else
 if op = 20 \/ op = 31 then alu_slt a b else
 if op = 21 \/ op = 32 then alu_sltu a b else
 if op = 22 \/ op = 33 \/ op = 54 then alu_xor a b else
 if op = 23 \/ op = 36 \/ op = 56 then alu_or a b else
 if op = 24 \/ op = 37 \/ op = 55 then alu_and a b else
 if op = 25 \/ op = 30 then alu_sll a b else
 if op = 26 \/ op = 34 then alu_srl a b else
 if op = 27 \/ op = 35 then alu_sra a b else
 if op = 42 then alu_mul a b else
 if op = 43 then alu_mulh a b else
 if op = 44 then alu_mulhsu a b else
 if op = 45 then alu_mulhu a b else
 if op = 46 then alu_div a b else
 if op = 47 then alu_divu a b else
 if op = 48 then alu_rem a b else
 if op = 49 then alu_remu a b else
 if op = 52 then alu_swap a b else
 if op = 57 then alu_min a b else
 if op = 58 then alu_max a b else
 if op = 59 then alu_minu a b else
 if op = 60 then alu_maxu a b else
 0
theorem sgn_bd (a : Nat) (h : a < 4294967296) : -2147483648 <= sgn a /\ sgn a <= 2147483647 := by unfold sgn; split <;> omega
theorem sgn_zero (b : Nat) (h : b < 4294967296) : (sgn b = 0) ↔ b = 0 := by unfold sgn; split <;> omega
def holds (op : Int) (a b : Nat) : Bool :=
 if op = 5 then decide (a = b) else if op = 6 then !decide (a = b) else if op = 7 then decide (sgn a < sgn b) else if op = 8 then decide (sgn b <= sgn a) else if op = 9 then decide (a < b) else if op = 10 then decide (b <= a) else false
structure Kept (F : List Nat) (w w' : World) : Prop where
 os : w'.os = w.os
 tape : w'.tape = w.tape
 output : w'.output = w.output
 size : w.heap.size <= w'.heap.size
 block : ∀ k, k < w.heap.size -> k ∉ F -> w'.heap[k]? = w.heap[k]?
abbrev CK (f : Nat) (a : Array Value) (r : Value) (w : World) : Prop := Calls prog f a w fun e w' => e = .returned r /\ Kept [] w w'
theorem Kept.refl (F : List Nat) (w : World) : Kept F w w := ⟨rfl, rfl, rfl, Nat.le_refl _, fun _ _ _ => rfl⟩
theorem Kept.trans {F : List Nat} {a b c : World} (h : Kept F a b) (k : Kept F b c) : Kept F a c :=
 ⟨k.os.trans h.os, k.tape.trans h.tape, k.output.trans h.output, Nat.le_trans h.size k.size, fun i hi hn => (k.block i (Nat.lt_of_lt_of_le hi h.size) hn).trans (h.block i hi hn)⟩
theorem Kept.mono {F G : List Nat} {a b : World} (h : Kept F a b) (hs : ∀ k ∈ F, k ∈ G) : Kept G a b := ⟨h.os, h.tape, h.output, h.size, fun i hi hn => h.block i hi (fun h' => hn (hs i h'))⟩
theorem Kept.alloc {F : List Nat} {a w : World} (h : Kept F a w) (o : Obj) : Kept F a (w.alloc o) :=
 ⟨h.os, h.tape, h.output, Nat.le_trans h.size (by simp), fun i hi hn => (Below.heap_alloc w o i (Nat.lt_of_lt_of_le hi h.size)).trans (h.block i hi hn)⟩
theorem Kept.setCell {F : List Nat} {a w : World} (h : Kept F a w) {p : Addr} (hp : p.block ∈ F \/ a.heap.size <= p.block) (u : Value) : Kept F a (w.setCell p u) := by
 have hb := (Below.refl w.heap.size w)
 refine ⟨h.os, h.tape, h.output, Nat.le_trans h.size ?_, fun i hi hn => (Below.heap_setCell w p u i ?_).trans (h.block i hi hn)⟩
 . exact ((Below.refl 0 w).setCell (Nat.zero_le _) u).size
 . intro e; subst e
   rcases hp with hp | hp
   . exact hn hp
   . omega
theorem Kept.drew {F : List Nat} {a w : World} (h : Kept F a w) : Kept F a w.drew := ⟨h.os, h.tape, h.output, h.size, h.block⟩
theorem Below.kept {w w' : World} (h : Below w.heap.size w w') (F : List Nat) : Kept F w w' := ⟨h.os, h.tape, h.output, h.size, fun k hk _ => h.block k hk⟩
theorem Kept.cell {F : List Nat} {w w' : World} (h : Kept F w w') {p : Addr} (hp : p.block < w.heap.size) (hn : p.block ∉ F) : w'.cell? p = w.cell? p := World.cell?_of_block (w := w) (h.block p.block hp hn)
theorem Kept.frozen {F : List Nat} {w w' : World} (h : Kept F w w') {p : Addr} (hp : p.block < w.heap.size) (hn : p.block ∉ F) : w'.frozen? p = w.frozen? p := World.frozen?_of_block (w := w) (h.block p.block hp hn)
structure BusS where
 ram : List UInt8
 msip : Nat
 time : Nat
 timeh : Nat
 cmp : Nat
 cmph : Nat
 enable : Nat
 scratch : Nat
 lost : Bool
 rx : ByteArray
 tx : ByteArray
structure BusOk (B : BusS) : Prop where
 ram : B.ram.length <= 65536
 msip : B.msip < 2
 time : B.time < 4294967296
 timeh : B.timeh < 4294967296
 cmp : B.cmp < 4294967296
 cmph : B.cmph < 4294967296
 enable : B.enable < 8
 scratch : B.scratch < 256
 rx : B.rx.size <= 4
 tx : B.tx.size <= 8
def holdsD (pa n : Int) (len : Nat) : Bool := decide (1 <= n /\ n <= 4 /\ 2147483648 <= pa /\ pa <= 2147483648 + len - n)
def isTmr (pa : Int) : Bool := decide (pa = 33554432 \/ pa = 33570816 \/ pa = 33570820 \/ pa = 33603576 \/ pa = 33603580)
def isPrt (pa : Int) : Bool := decide (pa = 268435456 \/ pa = 268435457 \/ pa = 268435458 \/ pa = 268435461 \/ pa = 268435463)
def takesD (pa n : Int) (len : Nat) : Bool := if holdsD pa n len = true then true else if isTmr pa = true then decide (n = 4) else if isPrt pa = true then decide (n = 1) else false
def whyD (B : BusS) : Nat := if (decide (B.enable / 4 % 2 = 1) && B.lost) = true then 6 else if (decide (B.enable % 2 = 1) && decide (0 < B.rx.size)) = true then 4 else if (decide (B.enable / 2 % 2 = 1) && decide (B.tx.size < 8)) = true then 2 else 1
def statD (B : BusS) : Nat := (if decide (0 < B.rx.size) = true then 1 else 0) + (if B.lost = true then 2 else 0) + (if decide (B.tx.size < 8) = true then 32 else 0) + (if decide (B.tx.size = 0) = true then 64 else 0)
def mtipD (B : BusS) : Bool := if decide (B.cmph < B.timeh) = true then true else if decide (B.timeh = B.cmph) = true then decide (B.cmp <= B.time) else false
def ldN : List UInt8 -> Nat
 | [] => 0
 | c :: l => c.toNat + 256 * ldN l
theorem ldN_lt : ∀ l : List UInt8, ldN l < 256 ^ l.length
 | [] => by simp [ldN]
 | c :: l => by
  have := ldN_lt l
  have hc := u8_bd c
  simp only [ldN, List.length_cons, Nat.pow_succ]; omega
def rdRam (B : BusS) (p n : Nat) : Nat := ldN ((B.ram.drop p).take n)
def readV (B : BusS) (pa : Int) : Nat × BusS :=
 if pa = 33554432 then (B.msip, B) else if pa = 33570816 then (B.cmp, B) else if pa = 33570820 then (B.cmph, B) else if pa = 33603576 then (B.time, B) else if pa = 33603580 then (B.timeh, B)
 else if pa = 268435456 then (if h : 0 < B.rx.size then (B.rx[0].toNat, { B with rx := B.rx.extract 1 B.rx.size }) else (0, B))
 else if pa = 268435457 then (B.enable, B) else if pa = 268435458 then (whyD B, B) else if pa = 268435461 then (statD B, { B with lost := false }) else (B.scratch, B)
def readD (B : BusS) (pa n : Int) : Nat × BusS := if holdsD pa n B.ram.length = true then (rdRam B (pa - 2147483648).toNat n.toNat, B) else if takesD pa n B.ram.length = true then readV B pa else (0, B)
theorem takes_n {pa n : Int} {L : Nat} (h : holdsD pa n L = false) (ht : takesD pa n L = true) : (isTmr pa = true /\ n = 4) \/ (isPrt pa = true /\ n = 1) := by
 unfold takesD at ht
 rw [h] at ht
 simp only [Bool.false_eq_true, if_false] at ht
 split at ht
 . next h1 => left; exact ⟨h1, by simpa using ht⟩
 . split at ht
   . next h1 => right; exact ⟨h1, by simpa using ht⟩
   . cases ht
def leL (v : Int) : Nat -> List Int
 | 0 => []
 | n + 1 => leL v n ++ [v / 256 ^ n % 256]
theorem Tryz.info5 : (prog.info? 5).map (fun i => (i.zero, i.size, i.bytes)) = some (some (.int .u8 0), 1, 1) := by kernel_rfl
theorem own_string {P : Program} {w : World} {base k : Nat} {b : Value} {xs : List Int} (src dst : TypeId) {e : TypeId} (hs : P.underlying src = some (.slice e)) (he : P.underlying e = some (.int .u8)) (hd : P.underlying dst = some .string)
 (h : w.ownsRow base e 1 b k (xs.map (Value.int .u8))) : (convert src dst b).run P w = .ok (.string (strOfNums xs)) w := by
 have hl := h.1
 rcases h.2 with ⟨rfl, rfl⟩ | ⟨g, cap, cur, rfl, hb, hg, rest⟩
 . have : xs = [] := by simpa using hl
   subst this
   exact run_convert_bytes_nil w src e hs he 0 0 dst hd
 . simp at hl
   refine run_convert_bytes_arg w src e hs he g 0 k cap xs hl (fun i hi => ?_) dst hd
   have := h.cells (g := g) rfl i (.int .u8 (xs.getD i 0)) (by simp [List.getElem?_map, List.getD, List.getElem?_eq_getElem (show i < xs.length by omega)])
   have hplain : (⟨g, 0, none⟩ : Addr).add i = ⟨g, 0 + i, none⟩ := by unfold Addr.add; split <;> simp_all
   rw [hplain] at this
   exact this
theorem a_Le (v : Int) (n : Nat) (hn : n <= 8) (w : World) :
 CB 147 #[.int .i64 v, .int .i64 n] (.string (strOfNums (leL v n))) w := by
 have hmk : ∀ w, (Instr.makeSlice 64 (.int .i64 0) (.int .i64 8)).run prog w = .ok (.slice (some ⟨w.heap.size, 0, none⟩) 0 8) (w.alloc (.cells #[.int .u8 0, .int .u8 0, .int .u8 0, .int .u8 0, .int .u8 0, .int .u8 0, .int .u8 0, .int .u8 0] 5)) := fun _ => by kernel_rfl
 obtain ⟨i0, hi, hz0, hz1, hz2⟩ := info_parts Tryz.info5
 go_enter func147, ntmps147
 exact zq204
theorem u_Le (v : Int) (n : Nat) (hn : n <= 8) (w : World) :
 CB 89 #[.int .i64 v, .int .i64 n] (.string (strOfNums (leL v n))) w := by
 have hmk : ∀ w, (Instr.makeSlice 64 (.int .i64 0) (.int .i64 8)).run prog w = .ok (.slice (some ⟨w.heap.size, 0, none⟩) 0 8) (w.alloc (.cells #[.int .u8 0, .int .u8 0, .int .u8 0, .int .u8 0, .int .u8 0, .int .u8 0, .int .u8 0, .int .u8 0] 5)) := fun _ => by kernel_rfl
 obtain ⟨i0, hi, hz0, hz1, hz2⟩ := info_parts Tryz.info5
 go_enter func89, ntmps89
 exact zq204
theorem add_strR {a b c : ByteArray} (h : a ++ b = c) (hl : a.size + b.size <= 100000) (w : World) : (Op.stringOp .add a b).run prog w = .ok (.string c) w := by
 rw [<- h]; exact run_string_add_sum w a b (by omega)
theorem leLR_length (v : Int) : ∀ n, (leL v n).length = n
 | 0 => rfl
 | n + 1 => by simp [leL, leLR_length v n]
theorem strNumsR_size (l : List Int) : (strOfNums l).size = l.length := by
 unfold strOfNums; simp [ByteArray.size]
def stN : List UInt8 -> Nat -> Nat -> Nat -> List UInt8
 | r, _, 0, _ => r
 | r, p, n + 1, v => stN (r.set p (UInt8.ofNat v)) (p + 1) n (v / 256)
theorem stN_length : ∀ (n : Nat) (r : List UInt8) (p v : Nat), (stN r p n v).length = r.length
 | 0, r, p, v => rfl
 | n + 1, r, p, v => by simp only [stN]; rw [stN_length n]; simp
def writeV (B : BusS) (pa : Int) (v : Nat) : BusS :=
 if pa = 33554432 then { B with msip := v % 2 } else if pa = 33570816 then { B with cmp := v } else if pa = 33570820 then { B with cmph := v } else if pa = 33603576 then { B with time := v } else if pa = 33603580 then { B with timeh := v }
 else if pa = 268435456 then (if B.tx.size < 8 then { B with tx := B.tx ++ strOfNums (leL v 1) } else B)
 else if pa = 268435457 then { B with enable := v % 8 } else if pa = 268435463 then { B with scratch := v % 256 } else B
def writeD (B : BusS) (pa n : Int) (v : Nat) : BusS := if holdsD pa n B.ram.length = true then { B with ram := stN B.ram (pa - 2147483648).toNat n.toNat v } else if takesD pa n B.ram.length = true then writeV B pa v else B
def tickD (B : BusS) (n : Nat) : BusS := { B with time := (B.time + n) % 4294967296, timeh := (B.timeh + (B.time + n) / 4294967296) % 4294967296 }
def busRe (B : BusS) : BusS := { ram := B.ram, msip := 0, time := 0, timeh := 0, cmp := 4294967295, cmph := 4294967295, enable := 0, scratch := 0, lost := false, rx := ⟨#[]⟩, tx := ⟨#[]⟩ }
theorem wrap_in (n : Int) (h : -9223372036854775808 <= n /\ n <= 9223372036854775807) : IntKind.i64.wrap n = n := by
 simp [IntKind.wrap, IntKind.bits, IntKind.signed]; omega
def feedG (s : ByteArray) : Nat -> Nat -> Nat -> BusS -> Nat × BusS
 | 0, _, n, B => (n, B)
 | f + 1, i, n, B => if B.rx.size < 4 then feedG s f (i + 1) (n + 1) { B with rx := B.rx ++ s.extract i (i + 1) } else feedG s f (i + 1) n { B with lost := true }
def laidB : List UInt8 -> Nat -> List UInt8 -> List UInt8
 | r, _, [] => r
 | r, p, c :: l => laidB (r.set p c) (p + 1) l
theorem laidB_length : ∀ (l r : List UInt8) (p : Nat), (laidB r p l).length = r.length
 | [], r, p => rfl
 | c :: l, r, p => by simp only [laidB]; rw [laidB_length l]; simp
def loadE (B : BusS) (off : Int) (s : ByteArray) : Int := if 65536 < s.size then 1 else if off < 0 \/ (B.ram.length : Int) - s.size < off then 2 else 0
def pkB (r : List UInt8) (off n : Nat) : ByteArray := strOfNums (((r.drop off).take n).map fun c => (c.toNat : Int))
def leA (v : Int) (n : Nat) : ByteArray := strOfNums (leL v n)
theorem leA_size (v : Int) (n : Nat) : (leA v n).size = n := by unfold leA; rw [strNumsR_size, leLR_length]
theorem v_Le4 (v : Int) (w : World) : CB 89 #[.int .i64 v, .int .i64 4] (.string (leA v 4)) w := u_Le v 4 (by omega) w
theorem add_in (a b : ByteArray) (h : a.size + b.size <= 100000) : ∃ c : ByteArray, c = a ++ b /\ c.size = a.size + b.size /\ ∀ w, (Op.stringOp .add a b).run prog w = .ok (.string c) w :=
 ⟨_, rfl, by rw [ByteArray.size_append], fun w => add_strR rfl h w⟩
structure CsrS where
 mode : Nat
 sie : Nat
 mie : Nat
 spie : Nat
 mpie : Nat
 spp : Nat
 mpp : Nat
 mprv : Nat
 sum : Nat
 mxr : Nat
 tvm : Nat
 tw : Nat
 tsr : Nat
 mtvec : Nat
 mscratch : Nat
 mepc : Nat
 mcause : Nat
 mtval : Nat
 mcen : Nat
 stvec : Nat
 sscratch : Nat
 sepc : Nat
 scause : Nat
 stval : Nat
 scen : Nat
 medeleg : Nat
 mideleg : Nat
 enable : Nat
 soft : Nat
 inhibit : Nat
 satp : Nat
 cycle : Nat
 cycleh : Nat
 ret : Nat
 reth : Nat
 held : Nat
 wroteC : Bool
 wroteI : Bool
def actsD (C : CsrS) (kind : Int) : Nat := if decide (kind = 0) = true then C.mode else if decide (C.mprv = 1) = true then C.mpp else C.mode
def bitN (e i : Nat) : Bool := decide (e / 2 ^ i % 2 = 1)
def allB (mode kind : Nat) (u r w x sum mxr : Bool) : Bool :=
 if decide (mode = 0) = true /\ u = false then false
 else if decide (mode = 1) = true /\ u = true /\ (decide (kind = 0) = true \/ sum = false) then false
 else if kind = 0 then x else if kind = 1 then (if r = true then true else if mxr = true then x else false) else w
def allD (C : CsrS) (e kind mode : Nat) : Bool := allB mode kind (bitN e 4) (bitN e 1) (bitN e 2) (bitN e 3) (decide (C.sum = 1)) (decide (C.mxr = 1))
def spanN (lvl : Nat) : Nat := if lvl = 1 then 4194304 else 4096
def adB (a d : Bool) (kind : Nat) : Nat := if a = true then (if kind = 2 then (if d = true then 0 else 128) else 0) else (if kind = 2 then (if d = true then 64 else 192) else 64)
def leafD (B : BusS) (C : CsrS) (e a lvl va kind mode : Nat) : (Nat × Nat) × BusS :=
 if allD C e kind mode = false then ((0, 1), B)
 else if lvl = 1 /\ ¬ e / 1024 % 1024 = 0 then ((0, 1), B)
 else ((e / 1024 * 4096 + va % spanN lvl, 0), if adB (bitN e 6) (bitN e 7) kind = 0 then B else { B with ram := stN B.ram (a - 2147483648) 4 (e + adB (bitN e 6) (bitN e 7) kind) })
def entA (table va lvl : Nat) : Nat := table + va / spanN lvl % 1024 * 4
def entE (B : BusS) (a : Nat) : Nat := rdRam B (a - 2147483648) 4
def walk0 (B : BusS) (C : CsrS) (table va kind mode : Nat) : (Nat × Nat) × BusS :=
 if holdsD (entA table va 0 : Nat) 4 B.ram.length = false then ((0, 2), B)
 else if bitN (entE B (entA table va 0)) 0 = false \/ (bitN (entE B (entA table va 0)) 2 = true /\ bitN (entE B (entA table va 0)) 1 = false) then ((0, 1), B)
 else if bitN (entE B (entA table va 0)) 1 = false /\ bitN (entE B (entA table va 0)) 3 = false then ((0, 1), B)
 else leafD B C (entE B (entA table va 0)) (entA table va 0) 0 va kind mode
def walk1 (B : BusS) (C : CsrS) (table va kind mode : Nat) : (Nat × Nat) × BusS :=
 if holdsD (entA table va 1 : Nat) 4 B.ram.length = false then ((0, 2), B)
 else if bitN (entE B (entA table va 1)) 0 = false \/ (bitN (entE B (entA table va 1)) 2 = true /\ bitN (entE B (entA table va 1)) 1 = false) then ((0, 1), B)
 else if bitN (entE B (entA table va 1)) 1 = false /\ bitN (entE B (entA table va 1)) 3 = false then
  (if bitN (entE B (entA table va 1)) 4 = true \/ bitN (entE B (entA table va 1)) 6 = true \/ bitN (entE B (entA table va 1)) 7 = true then ((0, 1), B)
   else walk0 B C (entE B (entA table va 1) / 1024 * 4096) va kind mode)
 else leafD B C (entE B (entA table va 1)) (entA table va 1) 1 va kind mode
theorem entE_lt (B : BusS) (a : Nat) : entE B a < 4294967296 := by
 unfold entE rdRam
 have h := ldN_lt ((B.ram.drop (a - 2147483648)).take 4)
 have hl : ((B.ram.drop (a - 2147483648)).take 4).length <= 4 := by simp; omega
 have h2 : 256 ^ ((B.ram.drop (a - 2147483648)).take 4).length <= 256 ^ 4 := Nat.pow_le_pow_right (by omega) hl
 omega
theorem holdsD_at {a L : Nat} (h : holdsD (a : Nat) 4 L = true) : 2147483648 <= a /\ a - 2147483648 + 4 <= L := by
 unfold holdsD at h
 simp at h
 omega
theorem writeV_ok {B : BusS} (hB : BusOk B) (pa : Int) (v : Nat) (hv : v < 4294967296) : BusOk (writeV B pa v) := by
 have e := hB
 unfold writeV
 repeat' split
 all_goals first
  | exact hB
  | exact ⟨e.ram, by show _ % _ < _; omega, e.time, e.timeh, e.cmp, e.cmph, e.enable, e.scratch, e.rx, e.tx⟩
  | exact ⟨e.ram, e.msip, e.time, e.timeh, hv, e.cmph, e.enable, e.scratch, e.rx, e.tx⟩
  | exact ⟨e.ram, e.msip, e.time, e.timeh, e.cmp, hv, e.enable, e.scratch, e.rx, e.tx⟩
  | exact ⟨e.ram, e.msip, hv, e.timeh, e.cmp, e.cmph, e.enable, e.scratch, e.rx, e.tx⟩
  | exact ⟨e.ram, e.msip, e.time, hv, e.cmp, e.cmph, e.enable, e.scratch, e.rx, e.tx⟩
  | exact ⟨e.ram, e.msip, e.time, e.timeh, e.cmp, e.cmph, by show _ % _ < _; omega, e.scratch, e.rx, e.tx⟩
  | exact ⟨e.ram, e.msip, e.time, e.timeh, e.cmp, e.cmph, e.enable, by show _ % _ < _; omega, e.rx, e.tx⟩
  | (refine ⟨e.ram, e.msip, e.time, e.timeh, e.cmp, e.cmph, e.enable, e.scratch, e.rx, ?_⟩
     show (B.tx ++ strOfNums (leL v 1)).size <= 8
     rw [ByteArray.size_append, strNumsR_size, leLR_length]; omega)
theorem writeV_ram (B : BusS) (pa : Int) (v : Nat) : (writeV B pa v).ram = B.ram := by
 unfold writeV
 repeat' split
 all_goals rfl
theorem setRam_ok {B : BusS} (hB : BusOk B) {r : List UInt8} (h : r.length = B.ram.length) : BusOk { B with ram := r } := ⟨by show r.length <= _; rw [h]; exact hB.ram, hB.msip, hB.time, hB.timeh, hB.cmp, hB.cmph, hB.enable, hB.scratch, hB.rx, hB.tx⟩
theorem writeD_ok {B : BusS} (hB : BusOk B) (pa n : Int) (v : Nat) (hv : v < 4294967296) : BusOk (writeD B pa n v) := by
 unfold writeD
 split
 . exact setRam_ok hB (stN_length _ _ _ _)
 . split
   . exact writeV_ok hB pa v hv
   . exact hB
theorem writeD_len (B : BusS) (pa n : Int) (v : Nat) : (writeD B pa n v).ram.length = B.ram.length := by
 unfold writeD
 split
 . exact stN_length _ _ _ _
 . split
   . rw [writeV_ram]
   . rfl
theorem readV_ok {B : BusS} (hB : BusOk B) (pa : Int) : BusOk (readV B pa).2 := by
 have e := hB
 unfold readV
 repeat' split
 all_goals first
  | exact hB
  | exact ⟨e.ram, e.msip, e.time, e.timeh, e.cmp, e.cmph, e.enable, e.scratch, by show (B.rx.extract 1 B.rx.size).size <= 4; rw [ByteArray.size_extract]; have := e.rx; omega, e.tx⟩
  | exact ⟨e.ram, e.msip, e.time, e.timeh, e.cmp, e.cmph, e.enable, e.scratch, e.rx, e.tx⟩
theorem readV_ram (B : BusS) (pa : Int) : (readV B pa).2.ram = B.ram := by
 unfold readV
 repeat' split
 all_goals rfl
theorem readD_ok {B : BusS} (hB : BusOk B) (pa n : Int) : BusOk (readD B pa n).2 := by
 unfold readD
 split
 . exact hB
 . split
   . exact readV_ok hB pa
   . exact hB
theorem readD_len (B : BusS) (pa n : Int) : (readD B pa n).2.ram.length = B.ram.length := by
 unfold readD
 split
 . rfl
 . split
   . rw [readV_ram]
   . rfl
theorem rdRam_lt (B : BusS) (p n : Nat) : rdRam B p n < 256 ^ n := by
 unfold rdRam
 have h := ldN_lt ((B.ram.drop p).take n)
 have hl : ((B.ram.drop p).take n).length <= n := by simp; omega
 exact Nat.lt_of_lt_of_le h (Nat.pow_le_pow_right (by omega) hl)
theorem why_lt (B : BusS) : whyD B < 256 := by
 unfold whyD
 repeat' split
 all_goals omega
theorem stat_lt (B : BusS) : statD B < 256 := by
 unfold statD
 repeat' split
 all_goals omega
theorem readD_lt {B : BusS} (hB : BusOk B) (pa : Int) (n : Nat) (_hn : 1 <= n) : (readD B pa n).1 < 256 ^ n := by
 have e := hB
 unfold readD
 split
 . rw [Int.toNat_natCast]; exact rdRam_lt _ _ _
 . rename_i h1
   split
   . rename_i h2
     have h1' : holdsD pa n B.ram.length = false := by simpa using h1
     rcases takes_n h1' h2 with ⟨ht, hn⟩ | ⟨hp, hn⟩
     . have hn4 : n = 4 := by omega
       subst hn4
       have a1 := e.msip; have a2 := e.cmp; have a3 := e.cmph; have a4 := e.time; have a5 := e.timeh
       unfold isTmr at ht
       simp at ht
       show (readV B pa).1 < 4294967296
       rcases ht with rfl | rfl | rfl | rfl | rfl <;> simp [readV] <;> omega
     . have hn1 : n = 1 := by omega
       subst hn1
       have a1 := e.enable; have a2 := e.scratch; have a3 := why_lt B; have a4 := stat_lt B
       unfold isPrt at hp
       simp at hp
       show (readV B pa).1 < 256
       rcases hp with rfl | rfl | rfl | rfl | rfl
       . simp only [readV]; simp
         split
         . exact UInt8.toNat_lt _
         . omega
       all_goals (simp [readV]; omega)
   . exact Nat.pos_of_ne_zero (by simp)
theorem leaf_ok {B : BusS} (hB : BusOk B) (C : CsrS) (e a lvl va kind mode : Nat) : BusOk (leafD B C e a lvl va kind mode).2 := by
 unfold leafD
 repeat' split
 all_goals first
  | exact hB
  | exact setRam_ok hB (stN_length _ _ _ _)
theorem leaf_len (B : BusS) (C : CsrS) (e a lvl va kind mode : Nat) : (leafD B C e a lvl va kind mode).2.ram.length = B.ram.length := by
 unfold leafD
 repeat' split
 all_goals first
  | rfl
  | exact stN_length _ _ _ _
theorem leaf_lt (B : BusS) (C : CsrS) (e a lvl va kind mode : Nat) (he : e < 4294967296) : (leafD B C e a lvl va kind mode).1.1 < 17184063488 /\ (leafD B C e a lvl va kind mode).1.2 <= 2 := by
 have hs : va % spanN lvl < 4194304 := by
  unfold spanN; split <;> omega
 unfold leafD
 exact zq205
theorem walk0_ok {B : BusS} (hB : BusOk B) (C : CsrS) (t va kind mode : Nat) : BusOk (walk0 B C t va kind mode).2 := by
 unfold walk0
 repeat' split
 all_goals first
  | exact hB
  | exact leaf_ok hB _ _ _ _ _ _ _
theorem walk0_len (B : BusS) (C : CsrS) (t va kind mode : Nat) : (walk0 B C t va kind mode).2.ram.length = B.ram.length := by
 unfold walk0
 repeat' split
 all_goals first
  | rfl
  | exact leaf_len _ _ _ _ _ _ _ _
theorem walk0_lt (B : BusS) (C : CsrS) (t va kind mode : Nat) : (walk0 B C t va kind mode).1.1 < 17184063488 /\ (walk0 B C t va kind mode).1.2 <= 2 := by
 unfold walk0
 repeat' split
 all_goals first
  | exact leaf_lt _ _ _ _ _ _ _ _ (entE_lt _ _)
  | exact ⟨by dsimp only; omega, by dsimp only; omega⟩
theorem walk1_ok {B : BusS} (hB : BusOk B) (C : CsrS) (t va kind mode : Nat) : BusOk (walk1 B C t va kind mode).2 := by
 unfold walk1
 repeat' split
 all_goals first
  | exact hB
  | exact leaf_ok hB _ _ _ _ _ _ _
  | exact walk0_ok hB _ _ _ _ _
theorem walk1_len (B : BusS) (C : CsrS) (t va kind mode : Nat) : (walk1 B C t va kind mode).2.ram.length = B.ram.length := by
 unfold walk1
 repeat' split
 all_goals first
  | rfl
  | exact leaf_len _ _ _ _ _ _ _ _
  | exact walk0_len _ _ _ _ _ _
theorem walk1_lt (B : BusS) (C : CsrS) (t va kind mode : Nat) : (walk1 B C t va kind mode).1.1 < 17184063488 /\ (walk1 B C t va kind mode).1.2 <= 2 := by
 unfold walk1
 repeat' split
 all_goals first
  | exact leaf_lt _ _ _ _ _ _ _ _ (entE_lt _ _)
  | exact walk0_lt _ _ _ _ _ _
  | exact ⟨by dsimp only; omega, by dsimp only; omega⟩
def pgD (C : CsrS) (kind : Nat) : Bool := if decide (actsD C kind < 3) = true then decide (2147483648 <= C.satp) else false
def trD (B : BusS) (C : CsrS) (va kind : Nat) : (Nat × Nat) × BusS := if pgD C kind = true then walk1 B C (C.satp % 4194304 * 4096) va kind (actsD C kind) else ((va, 0), B)
theorem tr_ok {B : BusS} (hB : BusOk B) (C : CsrS) (va kind : Nat) : BusOk (trD B C va kind).2 := by
 unfold trD; split
 . exact walk1_ok hB _ _ _ _ _
 . exact hB
theorem tr_len (B : BusS) (C : CsrS) (va kind : Nat) : (trD B C va kind).2.ram.length = B.ram.length := by
 unfold trD; split
 . exact walk1_len _ _ _ _ _ _
 . rfl
theorem tr_lt (B : BusS) (C : CsrS) (va kind : Nat) (h : va < 4294967296) : (trD B C va kind).1.1 < 17184063488 /\ (trD B C va kind).1.2 <= 2 := by
 unfold trD; split
 . exact walk1_lt _ _ _ _ _ _
 . exact zq206
def halfP (t : (Nat × Nat) × BusS) : (Nat × Nat) × BusS :=
 if t.1.2 = 0 then (if holdsD (t.1.1 : Nat) 2 t.2.ram.length = true then ((rdRam t.2 (t.1.1 - 2147483648) 2, 0), t.2) else ((0, 2), t.2)) else ((0, t.1.2), t.2)
def halfD (B : BusS) (C : CsrS) (va : Nat) : (Nat × Nat) × BusS := halfP (trD B C va 0)
theorem half_ok {B : BusS} (hB : BusOk B) (C : CsrS) (va : Nat) : BusOk (halfD B C va).2 := by
 have := tr_ok hB C va 0
 unfold halfD halfP
 exact zq207
theorem half_len (B : BusS) (C : CsrS) (va : Nat) : (halfD B C va).2.ram.length = B.ram.length := by
 have := tr_len B C va 0
 unfold halfD halfP
 exact zq207
theorem half_lt (B : BusS) (C : CsrS) (va : Nat) (h : va < 4294967296) : (halfD B C va).1.1 < 65536 /\ (halfD B C va).1.2 <= 2 := by
 have h2 := (tr_lt B C va 0 h).2
 unfold halfD halfP
 repeat' split
 . have h3 := rdRam_lt (trD B C va 0).2 ((trD B C va 0).1.1 - 2147483648) 2
   exact zq206
 . exact zq206
 . exact ⟨by dsimp only; omega, h2⟩
def wordAtP (t : (Nat × Nat) × BusS) : (Nat × Nat) × BusS :=
 if t.1.2 = 0 then (if holdsD (t.1.1 : Nat) 4 t.2.ram.length = true then t else ((0, 2), t.2)) else t
def wordAtD (B : BusS) (C : CsrS) (va kind : Nat) : (Nat × Nat) × BusS := wordAtP (trD B C va kind)
theorem wordAt_ok {B : BusS} (hB : BusOk B) (C : CsrS) (va kind : Nat) : BusOk (wordAtD B C va kind).2 := by
 have := tr_ok hB C va kind
 unfold wordAtD wordAtP
 exact zq207
theorem wordAt_len (B : BusS) (C : CsrS) (va kind : Nat) : (wordAtD B C va kind).2.ram.length = B.ram.length := by
 have := tr_len B C va kind
 unfold wordAtD wordAtP
 exact zq207
theorem wordAt_lt (B : BusS) (C : CsrS) (va kind : Nat) (h : va < 4294967296) : (wordAtD B C va kind).1.1 < 17184063488 /\ (wordAtD B C va kind).1.2 <= 2 := by
 have h2 := tr_lt B C va kind h
 unfold wordAtD wordAtP
 repeat' split
 . exact h2
 . exact zq206
 . exact h2
structure Spn where
 pa1 : Nat
 n1 : Nat
 pa2 : Nat
 n2 : Nat
 fault : Nat
 wh : Nat
def roomD (va n : Nat) : Nat := if 4096 - va % 4096 < n then 4096 - va % 4096 else n
def reach2 (pa k n next : Nat) (u : (Nat × Nat) × BusS) : Spn × BusS :=
 if u.1.2 = 0 then (if takesD (u.1.1 : Nat) ((n - k : Nat) : Int) u.2.ram.length = true then (⟨pa, k, u.1.1, n - k, 0, 0⟩, u.2) else (⟨0, 0, 0, 0, 2, next⟩, u.2)) else (⟨0, 0, 0, 0, u.1.2, next⟩, u.2)
def reach1 (C : CsrS) (va n kind k : Nat) (t : (Nat × Nat) × BusS) : Spn × BusS :=
 if t.1.2 = 0 then (if takesD (t.1.1 : Nat) (k : Nat) t.2.ram.length = true then
  (if k < n then reach2 t.1.1 k n ((va + k) % 4294967296) (trD t.2 C ((va + k) % 4294967296) kind) else (⟨t.1.1, k, 0, 0, 0, 0⟩, t.2))
  else (⟨0, 0, 0, 0, 2, va⟩, t.2)) else (⟨0, 0, 0, 0, t.1.2, va⟩, t.2)
def reachD (B : BusS) (C : CsrS) (va n kind : Nat) : Spn × BusS := reach1 C va n kind (roomD va n) (trD B C va kind)
theorem reach_ok {B : BusS} (hB : BusOk B) (C : CsrS) (va n kind : Nat) : BusOk (reachD B C va n kind).2 := by
 have h1 := tr_ok hB C va kind
 have h2 := tr_ok h1 C ((va + roomD va n) % 4294967296) kind
 unfold reachD reach1 reach2
 repeat' split
 all_goals first | exact h1 | exact h2
theorem reach_len (B : BusS) (C : CsrS) (va n kind : Nat) : (reachD B C va n kind).2.ram.length = B.ram.length := by
 have h1 := tr_len B C va kind
 have h2 := tr_len (trD B C va kind).2 C ((va + roomD va n) % 4294967296) kind
 unfold reachD reach1 reach2
 repeat' split
 all_goals first | exact h1 | exact h2.trans h1
structure SpnOk (s : Spn) (n : Nat) : Prop where
 pa1 : s.pa1 < 17184063488
 pa2 : s.pa2 < 17184063488
 fault : s.fault <= 2
 wh : s.wh < 4294967296
 n1 : s.fault = 0 -> 1 <= s.n1
 sum : s.fault = 0 -> s.n1 + s.n2 = n
 le : s.n1 + s.n2 <= n
theorem reach_sp (B : BusS) (C : CsrS) (va n kind : Nat) (hv : va < 4294967296) (hn : 1 <= n) : SpnOk (reachD B C va n kind).1 n := by
 have h1 := tr_lt B C va kind hv
 have hr : 1 <= roomD va n /\ roomD va n <= n := zq6
 have hx : (va + roomD va n) % 4294967296 < 4294967296 := by omega
 have h2 := tr_lt (trD B C va kind).2 C ((va + roomD va n) % 4294967296) kind hx
 unfold reachD reach1 reach2
 obtain ⟨k, hk⟩ := zn1 (roomD va n)
 rw [<- hk] at hr hx h2 |-
 repeat' split
 all_goals exact ⟨by dsimp only; omega, by dsimp only; omega, by dsimp only; omega, by dsimp only; omega, by dsimp only; omega, by dsimp only; omega, by dsimp only; omega⟩
def loadD (B : BusS) (s : Spn) : Nat × BusS :=
 if 0 < s.n2 then ((readD B s.pa1 s.n1).1 + (readD (readD B s.pa1 s.n1).2 s.pa2 s.n2).1 * 256 ^ s.n1, (readD (readD B s.pa1 s.n1).2 s.pa2 s.n2).2) else readD B s.pa1 s.n1
theorem load_ok {B : BusS} (hB : BusOk B) (s : Spn) : BusOk (loadD B s).2 := by
 unfold loadD; split
 . exact readD_ok (readD_ok hB _ _) _ _
 . exact readD_ok hB _ _
theorem load_len (B : BusS) (s : Spn) : (loadD B s).2.ram.length = B.ram.length := by
 unfold loadD; split
 . exact (readD_len _ _ _).trans (readD_len _ _ _)
 . exact readD_len _ _ _
theorem load_lt {B : BusS} (hB : BusOk B) (s : Spn) (h : 1 <= s.n1) : (loadD B s).1 < 256 ^ (s.n1 + s.n2) := by
 have h1 := readD_lt hB s.pa1 s.n1 h
 unfold loadD; split
 . rename_i h2
   have h3 := readD_lt (readD_ok hB s.pa1 s.n1) s.pa2 s.n2 h2
   dsimp only
   rw [Nat.pow_add]
   obtain ⟨a, ha⟩ := zn1 ((readD B s.pa1 s.n1).1)
   obtain ⟨b, hb⟩ := zn1 ((readD (readD B s.pa1 s.n1).2 s.pa2 s.n2).1)
   rw [<- ha] at h1 |-
   rw [<- hb] at h3 |-
   obtain ⟨x, hx⟩ := zn1 (256 ^ s.n1)
   obtain ⟨y, hy⟩ := zn1 (256 ^ s.n2)
   rw [<- hx] at h1 |-
   rw [<- hy] at h3 |-
   calc a + b * x < x + b * x := by omega
    _ = (b + 1) * x := by rw [Nat.add_mul]; omega
    _ <= y * x := Nat.mul_le_mul_right _ h3
    _ = x * y := Nat.mul_comm _ _
 . rename_i h2
   have h0 : s.n2 = 0 := by omega
   rw [h0]; exact h1
def storeD (B : BusS) (s : Spn) (v : Nat) : BusS := if 0 < s.n2 then writeD (writeD B s.pa1 s.n1 v) s.pa2 s.n2 (v / 256 ^ s.n1) else writeD B s.pa1 s.n1 v
theorem store_ok {B : BusS} (hB : BusOk B) (s : Spn) (v : Nat) (hv : v < 4294967296) : BusOk (storeD B s v) := by
 have h2 : v / 256 ^ s.n1 < 4294967296 := Nat.lt_of_le_of_lt (Nat.div_le_self _ _) hv
 unfold storeD; split
 . exact writeD_ok (writeD_ok hB _ _ _ hv) _ _ _ h2
 . exact writeD_ok hB _ _ _ hv
theorem store_len (B : BusS) (s : Spn) (v : Nat) : (storeD B s v).ram.length = B.ram.length := by
 unfold storeD; split
 . exact (writeD_len _ _ _ _).trans (writeD_len _ _ _ _)
 . exact writeD_len _ _ _ _
theorem bv_nat (a : Nat) (h : a < 9223372036854775808) : (BitVec.ofInt 64 (a : Int)).toNat = a := by
 rw [BitVec.toNat_ofInt]
 have e : ((2 ^ 64 : Nat) : Int) = 18446744073709551616 := by decide
 rw [e, Int.emod_eq_of_lt (by omega) (by omega)]; omega
theorem wrap_nat63 (a : Nat) (h : a < 9223372036854775808) : IntKind.i64.wrap (a : Int) = a := by rw [IntKind.wrap_i64]; omega
theorem nat_or_lt (a b n : Nat) (ha : a < 2 ^ n) (hb : b < 2 ^ n) : (a ||| b) < 2 ^ n := Nat.or_lt_two_pow ha hb
theorem b_and (a b : Nat) (ha : a < 9223372036854775808) (hb : b < 9223372036854775808) : bits .and .i64 (a : Int) (b : Int) = ((a &&& b : Nat) : Int) := by
 have hx : bits .and .i64 (a : Int) (b : Int) = IntKind.i64.wrap (((BitVec.ofInt 64 (a : Int) &&& BitVec.ofInt 64 (b : Int)).toNat : Nat) : Int) := rfl
 rw [hx, BitVec.toNat_and, bv_nat a ha, bv_nat b hb]
 exact wrap_nat63 _ (Nat.lt_of_le_of_lt Nat.and_le_left ha)
theorem b_or (a b : Nat) (ha : a < 9223372036854775808) (hb : b < 9223372036854775808) : bits .or .i64 (a : Int) (b : Int) = ((a ||| b : Nat) : Int) := by
 have hx : bits .or .i64 (a : Int) (b : Int) = IntKind.i64.wrap (((BitVec.ofInt 64 (a : Int) ||| BitVec.ofInt 64 (b : Int)).toNat : Nat) : Int) := rfl
 rw [hx, BitVec.toNat_or, bv_nat a ha, bv_nat b hb]
 exact wrap_nat63 _ (nat_or_lt a b 63 ha hb)
theorem b_xor (a b : Nat) (ha : a < 9223372036854775808) (hb : b < 9223372036854775808) : bits .xor .i64 (a : Int) (b : Int) = ((a ^^^ b : Nat) : Int) := by
 have hx : bits .xor .i64 (a : Int) (b : Int) = IntKind.i64.wrap (((BitVec.ofInt 64 (a : Int) ^^^ BitVec.ofInt 64 (b : Int)).toNat : Nat) : Int) := rfl
 rw [hx, BitVec.toNat_xor, bv_nat a ha, bv_nat b hb]
 exact wrap_nat63 _ (Nat.xor_lt_two_pow (n := 63) ha hb)
theorem wout_eq (a m n : Nat) (ha : a < 2 ^ n) : (a &&& (2 ^ n - (m % 2 ^ n + 1))) = wout a m := by
 have h1 := or_and _ (a &&& (2 ^ n - (m % 2 ^ n + 1))) (a &&& m) (Nat.le_refl _)
 have hm : m % 2 ^ n < 2 ^ n := Nat.mod_lt _ (Nat.two_pow_pos n)
 have e1 : ((a &&& (2 ^ n - (m % 2 ^ n + 1))) ||| (a &&& m)) = a := by
  refine Nat.eq_of_testBit_eq fun i => ?_
  rw [Nat.testBit_or, Nat.testBit_and, Nat.testBit_and, Nat.testBit_two_pow_sub_succ hm, Nat.testBit_mod_two_pow]
  by_cases hi : i < n
  . cases a.testBit i <;> cases m.testBit i <;> simp [hi]
  . have : a.testBit i = false := Nat.testBit_lt_two_pow (Nat.lt_of_lt_of_le ha (Nat.pow_le_pow_right (by omega) (by omega)))
    simp [this]
 have e2 : ((a &&& (2 ^ n - (m % 2 ^ n + 1))) &&& (a &&& m)) = 0 := by
  refine Nat.eq_of_testBit_eq fun i => ?_
  rw [Nat.testBit_and, Nat.testBit_and, Nat.testBit_and, Nat.testBit_two_pow_sub_succ hm, Nat.testBit_mod_two_pow]
  by_cases hi : i < n
  . cases a.testBit i <;> cases m.testBit i <;> simp [hi]
  . simp [hi]
 rw [e1, e2] at h1
 unfold wout
 omega
theorem b_andn (a b : Nat) (ha : a < 9223372036854775808) (hb : b < 9223372036854775808) : bits .andNot .i64 (a : Int) (b : Int) = ((wout a b : Nat) : Int) := by
 have hx : bits .andNot .i64 (a : Int) (b : Int) = IntKind.i64.wrap (((BitVec.ofInt 64 (a : Int) &&& ~~~ BitVec.ofInt 64 (b : Int)).toNat : Nat) : Int) := rfl
 have e : (~~~ BitVec.ofInt 64 (b : Int)).toNat = 2 ^ 64 - (b % 2 ^ 64 + 1) := by
  rw [BitVec.toNat_not, bv_nat b hb, Nat.mod_eq_of_lt (Nat.lt_of_lt_of_le hb (by decide))]; omega
 rw [hx, BitVec.toNat_and, bv_nat a ha, e, wout_eq a b 64 (Nat.lt_of_lt_of_le ha (by decide))]
 exact wrap_nat63 _ (by unfold wout; omega)
theorem wout_le (a b : Nat) : wout a b <= a := by unfold wout; omega
namespace Pic
def okBit (x : UInt8) (b : Nat) : Bool := !(x == 48 && b == 1) && !(x == 49 && b == 0)
def fits : List UInt8 -> Nat -> Bool
 | [], _ => true
 | x :: q, w => okBit x (w % 2) && fits q (w / 2)
def val (m : UInt8 -> Bool) : List UInt8 -> Nat -> Nat
 | [], _ => 0
 | x :: q, w => bif m x then w % 2 + 2 * val m q (w / 2) else val m q (w / 2)
def cnt (m : UInt8 -> Bool) : List UInt8 -> Nat
 | [] => 0
 | x :: q => bif m x then 1 + cnt m q else cnt m q
def isLet (x : UInt8) : Bool := decide (97 <= x.toNat) && decide (x.toNat <= 122)
def sum : List UInt8 -> Nat -> Nat
 | [], _ => 0
 | x :: q, w => (bif isLet x then (w % 2) * 2 ^ (x.toNat - 97) else 0) + sum q (w / 2)
def high : List UInt8 -> Nat
 | [] => 0
 | x :: q => bif isLet x then max (2 ^ (x.toNat - 97)) (high q) else high q
theorem val_lt (m : UInt8 -> Bool) : ∀ q w, val m q w < 2 ^ cnt m q
 | [], _ => by simp [val, cnt]
 | x :: q, w => by
  have h := val_lt m q (w / 2)
  cases hm : m x <;> simp [val, cnt, hm]
  . exact h
  . rw [Nat.pow_add]; omega
def most : List UInt8 -> Nat
 | [] => 0
 | x :: q => (bif isLet x then 2 ^ (x.toNat - 97) else 0) + most q
theorem sum_le_most : ∀ q w, sum q w <= most q
 | [], _ => by simp [sum, most]
 | x :: q, w => by
  have h := sum_le_most q (w / 2)
  have hb : w % 2 <= 1 := by omega
  cases hl : isLet x <;> simp only [sum, most, hl, cond_false, cond_true]
  . omega
  . have : w % 2 * 2 ^ (x.toNat - 97) <= 1 * 2 ^ (x.toNat - 97) := Nat.mul_le_mul_right _ hb
    omega
def imm (q : List UInt8) (neg : Bool) (w : Nat) : Int :=
 if neg = true /\ high q <= sum q w then (sum q w : Int) - 2 * (high q : Int) else (sum q w : Int)
def draw : List UInt8 -> Int -> Int -> Int -> Int -> Nat
 | [], _, _, _, _ => 0
 | x :: q, rd, rs1, rs2, im =>
  if x = 49 then 1 + 2 * draw q rd rs1 rs2 im
  else if x = 68 \/ x = 66 then (rd % 2).toNat + 2 * draw q (rd / 2) rs1 rs2 im
  else if x = 83 then (rs1 % 2).toNat + 2 * draw q rd (rs1 / 2) rs2 im
  else if x = 84 then (rs2 % 2).toNat + 2 * draw q rd rs1 (rs2 / 2) im
  else if isLet x = true then (im / 2 ^ (x.toNat - 97) % 2).toNat + 2 * draw q rd rs1 rs2 im
  else 2 * draw q rd rs1 rs2 im
theorem draw_lt : ∀ q rd rs1 rs2 im, draw q rd rs1 rs2 im < 2 ^ q.length
 | [], _, _, _, _ => by simp [draw]
 | x :: q, rd, rs1, rs2, im => by
  have h1 := draw_lt q rd rs1 rs2 im
  have h2 := draw_lt q (rd / 2) rs1 rs2 im
  have h3 := draw_lt q rd (rs1 / 2) rs2 im
  have h4 := draw_lt q rd rs1 (rs2 / 2) im
  simp only [draw, List.length_cons, Nat.pow_succ]
  repeat' split
  all_goals omega
theorem imm_of (q : List UInt8) (neg : Bool) (w : Nat) : imm q neg w = if neg = true /\ high q <= sum q w then (sum q w : Int) - 2 * (high q : Int) else (sum q w : Int) := rfl
def rv (l : List UInt8) (j : Nat) : List UInt8 := (l.take j).reverse
theorem rv_zero (l : List UInt8) : rv l 0 = [] := rfl
theorem rv_succ (l : List UInt8) (i : Nat) (h : i < l.length) : rv l (i + 1) = l[i] :: rv l i := by
 unfold rv; rw [List.take_succ_eq_append_getElem h, List.reverse_append]; rfl
theorem rv_length (l : List UInt8) (j : Nat) (h : j <= l.length) : (rv l j).length = j := by unfold rv; simp; omega
theorem cnt_le (m : UInt8 -> Bool) : ∀ q, cnt m q <= q.length
 | [] => by simp [cnt]
 | x :: q => by
  have := cnt_le m q
  cases hm : m x <;> simp [cnt, hm] <;> omega
end Pic
theorem and_mask (x : Int) (n : Nat) (hn : n <= 62) : bits .and .i64 x ((2 ^ n - 1 : Nat) : Int) = x % 2 ^ n := by
 have e1 : ((2 : Int) ^ n) = ((2 ^ n : Nat) : Int) := by simp
 have hp : 2 ^ n <= 2 ^ 62 := Nat.pow_le_pow_right (by decide) hn
 have h62 : (2 : Nat) ^ 62 = 4611686018427387904 := by decide
 have h1 : 1 <= 2 ^ n := Nat.one_le_two_pow
 have ha : (BitVec.ofInt 64 x &&& BitVec.ofInt 64 ((2 ^ n - 1 : Nat) : Int)).toNat = (x % 2 ^ n).toNat := by
  rw [BitVec.toNat_and, BitVec.toNat_ofInt, BitVec.toNat_ofInt]
  have e2 : (((2 ^ n - 1 : Nat) : Int) % ((2 ^ 64 : Nat) : Int)).toNat = 2 ^ n - 1 := by
   rw [Int.emod_eq_of_lt (by omega) (by have : (2 : Nat) ^ 64 = 18446744073709551616 := (by decide); omega)]; omega
  rw [e2, Nat.and_two_pow_sub_one_eq_mod, e1]
  have hd : (2 ^ n : Nat) ∣ 2 ^ 64 := Nat.pow_dvd_pow 2 (by omega)
  have e3 : ((x % ((2 ^ 64 : Nat) : Int)).toNat : Int) = x % ((2 ^ 64 : Nat) : Int) := Int.toNat_of_nonneg (Int.emod_nonneg _ (by decide))
  have e4 : (((x % ((2 ^ 64 : Nat) : Int)).toNat % 2 ^ n : Nat) : Int) = x % ((2 ^ n : Nat) : Int) := by
   rw [Int.natCast_emod, e3]
   exact Int.emod_emod_of_dvd x (Int.natCast_dvd_natCast.2 hd)
  omega
 have hb : bits .and .i64 x ((2 ^ n - 1 : Nat) : Int) = IntKind.i64.wrap (((BitVec.ofInt 64 x &&& BitVec.ofInt 64 ((2 ^ n - 1 : Nat) : Int)).toNat : Nat) : Int) := rfl
 rw [hb, ha, IntKind.wrap_i64]
 have h2 : x % 2 ^ n < 2 ^ n := Int.emod_lt_of_pos _ (by rw [e1]; omega)
 have h3 : 0 <= x % 2 ^ n := Int.emod_nonneg _ (by rw [e1]; omega)
 rw [e1] at h2 h3 |-
 omega
theorem and_one (x : Int) : bits .and .i64 x 1 = x % 2 := and_mask x 1 (by decide)
theorem and_three (x : Int) : bits .and .i64 x 3 = x % 4 := and_mask x 2 (by decide)
theorem i_isLet (c : UInt8) (w : World) :
 CS 211 #[.int .u8 (c.toNat : Int)] (.bool (Pic.isLet c)) w := by
 by_cases h1 : (97 : Int) <= c.toNat
 . by_cases h2 : (c.toNat : Int) <= 122
   . go_enter func211, ntmps211
     go_wp2
     go_ret
     exact ⟨by rw [show Pic.isLet c = true by simp [Pic.isLet]; omega]; rfl, rfl⟩
   . exact zq208
 . exact zq208
theorem u8_eq {c : UInt8} {n : Nat} (hn : n < 256) : (c.toNat : Int) = n ↔ c = UInt8.ofNat n := zq197
theorem okBit_of {c : UInt8} {x : Nat} {q : List UInt8} {t : Bool} (h : Hid (Pic.fits (c :: q) x = t)) : t = (Pic.okBit c (x % 2) && Pic.fits q (x / 2)) := h.out.symm
theorem okBit_0 {c : UInt8} {x : Nat} (h : (c.toNat : Int) = 48) : Pic.okBit c (x % 2) = !(x % 2 == 1) := by
 have : c = 48 := (u8_eq (n := 48) (by decide)).1 h
 subst this; simp [Pic.okBit]
theorem okBit_1 {c : UInt8} {x : Nat} (h : (c.toNat : Int) = 49) : Pic.okBit c (x % 2) = !(x % 2 == 0) := by
 have : c = 49 := (u8_eq (n := 49) (by decide)).1 h
 subst this; simp [Pic.okBit]
theorem okBit_x {c : UInt8} {x : Nat} (h : ¬ (c.toNat : Int) = 48) (h1 : ¬ (c.toNat : Int) = 49) : Pic.okBit c (x % 2) = true := by
 have a : c ≠ 48 := fun e => h ((u8_eq (n := 48) (by decide)).2 e)
 have b : c ≠ 49 := fun e => h1 ((u8_eq (n := 49) (by decide)).2 e)
 simp [Pic.okBit, a, b]
theorem rv_at (s : ByteArray) (i : Nat) (h : i < s.size) : Pic.rv s.data.toList (i + 1) = s[i] :: Pic.rv s.data.toList i := by
 rw [Pic.rv_succ _ _ (by simpa using h)]; rfl
theorem i_fixed (s : ByteArray) (hs : s.size <= 32) (W : Nat) (hW : W < 4294967296) (w : World) :
 CS 208 #[.string s, .int .i64 W] (.bool (Pic.fits (Pic.rv s.data.toList s.size) W)) w := by
 go_enter func208, ntmps208
 go_wp2
 go_loop [1, 5] (fun y k => ∃ j x : Nat, j <= s.size /\ x < 4294967296 /\ k = .int .i64 ((j : Int) - 1) /\ y = .int .i64 x /\ Hid (Pic.fits (Pic.rv s.data.toList j) x = Pic.fits (Pic.rv s.data.toList s.size) W)) (fun _ k => (intOf k + 1).toNat)
 case atStart => exact ⟨s.size, W, Nat.le_refl _, hW, rfl, rfl, rfl⟩
 case round =>
  obtain ⟨j, x, hj, hx, rfl, rfl, hh⟩ := hrel
  cases j with
  | zero =>
   go_wp2
   go_ret
   exact ⟨by rw [<- hh.out]; rfl, rfl⟩
  | succ i =>
   have e : ((i + 1 : Nat) : Int) - 1 = (i : Int) := by omega
   rw [e]
   have hi : i < s.size := by omega
   rw [rv_at s i hi] at hh
   have h1 := and_one (x : Int)
   go_wp2
   . go_ret
     have a : (s[i].toNat : Int) = 48 := by assumption
     have b : (x : Int) % 2 = 1 := by assumption
     exact ⟨by rw [okBit_of hh, okBit_0 a, show (x % 2 == 1) = true by simp; omega]; rfl, rfl⟩
   . have a : (s[i].toNat : Int) = 48 := by assumption
     have b : ¬ (x : Int) % 2 = 1 := by assumption
     go_round
     case rel => exact ⟨i, x / 2, by omega, by omega, by go_num, by go_num, by rw [okBit_of hh, okBit_0 a, show (x % 2 == 1) = false by simp; omega]; rfl⟩
     case measure => simp [intOf]
   . go_ret
     have a : (s[i].toNat : Int) = 49 := by assumption
     have b : ((x : Int) % 2 == 0) = true := by assumption
     rw [beq_iff_eq] at b
     exact ⟨by rw [okBit_of hh, okBit_1 a, show (x % 2 == 0) = true by simp; omega]; rfl, rfl⟩
   . have a : (s[i].toNat : Int) = 49 := by assumption
     have b : ((x : Int) % 2 == 0) = false := by assumption
     rw [beq_eq_false_iff_ne] at b
     go_round
     case rel => exact ⟨i, x / 2, by omega, by omega, by go_num, by go_num, by rw [okBit_of hh, okBit_1 a, show (x % 2 == 0) = false by simp; omega]; rfl⟩
     case measure => simp [intOf]
   . have a : ¬ (s[i].toNat : Int) = 48 := by assumption
     have b : ¬ (s[i].toNat : Int) = 49 := by assumption
     go_round
     case rel => exact ⟨i, x / 2, by omega, by omega, by go_num, by go_num, by rw [okBit_of hh, okBit_x a b]; rfl⟩
     case measure => simp [intOf]
theorem val_hit {m : UInt8 -> Bool} {c : UInt8} {q : List UInt8} {x n t V C : Nat} (hm : m c = true) (h : Hid (n + t * Pic.val m (c :: q) x = V /\ t * 2 ^ Pic.cnt m (c :: q) = C)) :
 Hid (n + x % 2 * t + (t * 2) * Pic.val m q (x / 2) = V /\ (t * 2) * 2 ^ Pic.cnt m q = C) := by
 obtain ⟨h1, h2⟩ := h.out
 simp only [Pic.val, Pic.cnt, hm, cond_true, Nat.pow_add] at h1 h2
 refine ⟨?_, by rw [<- h2, Nat.mul_assoc]⟩
 rw [<- h1, Nat.mul_add, Nat.mul_assoc t 2, Nat.mul_comm (x % 2) t]; omega
theorem val_miss {m : UInt8 -> Bool} {c : UInt8} {q : List UInt8} {x n t V C : Nat} (hm : m c = false) (h : Hid (n + t * Pic.val m (c :: q) x = V /\ t * 2 ^ Pic.cnt m (c :: q) = C)) :
 Hid (n + t * Pic.val m q (x / 2) = V /\ t * 2 ^ Pic.cnt m q = C) := by
 obtain ⟨h1, h2⟩ := h.out
 simp only [Pic.val, Pic.cnt, hm, cond_false] at h1 h2
 exact ⟨h1, h2⟩
theorem val_bd {m : UInt8 -> Bool} {l : List UInt8} {q : List UInt8} {x n t V W : Nat} (hl : l.length <= 32) (hV : V = Pic.val m l W) (h : Hid (n + t * Pic.val m q x = V /\ t * 2 ^ Pic.cnt m q = 2 ^ Pic.cnt m l)) : n < 4294967296 /\ 1 <= t /\ t <= 4294967296 := by
 obtain ⟨h1, h2⟩ := h.out
 have a := Pic.val_lt m l W
 have b := Pic.cnt_le m l
 have c : 2 ^ Pic.cnt m l <= 2 ^ 32 := zq4
 have d : (2 : Nat) ^ 32 = 4294967296 := by decide
 have e : 1 <= 2 ^ Pic.cnt m q := Nat.one_le_two_pow
 have f : t * 1 <= t * 2 ^ Pic.cnt m q := Nat.mul_le_mul_left _ e
 have g : 1 <= 2 ^ Pic.cnt m l := Nat.one_le_two_pow
 refine ⟨by omega, ?_, by omega⟩
 rcases Nat.eq_zero_or_pos t with h | h
 . subst h; omega
 . exact h
def regOf (s : ByteArray) (c : UInt8) (W : Nat) : Nat :=
 let l := Pic.rv s.data.toList s.size
 if Pic.cnt (· == c) l = 3 then Pic.val (· == c) l W + 8 else Pic.val (· == c) l W
theorem pow_3 {n : Nat} : 2 ^ n = 8 ↔ n = 3 := by
 constructor
 . intro h
   have : (2 : Nat) ^ n = 2 ^ 3 := h
   exact (Nat.pow_right_inj (by decide)).1 this
 . intro h; subst h; rfl
theorem reg_8 {s : ByteArray} {c : UInt8} {W V nn tt : Nat} (HV : Hid (Pic.val (· == c) (Pic.rv s.data.toList s.size) W = V)) (Q1 : Hid (nn = V))
 (Q2 : Hid (tt = 2 ^ Pic.cnt (· == c) (Pic.rv s.data.toList s.size))) (H3 : Hid (tt = 8)) : regOf s c W = nn + 8 := by
 unfold regOf
 rw [if_pos (pow_3.1 (by rw [<- Q2.out]; exact H3.out)), HV.out, Q1.out]
theorem reg_n {s : ByteArray} {c : UInt8} {W V nn tt : Nat} (HV : Hid (Pic.val (· == c) (Pic.rv s.data.toList s.size) W = V)) (Q1 : Hid (nn = V))
 (Q2 : Hid (tt = 2 ^ Pic.cnt (· == c) (Pic.rv s.data.toList s.size))) (H3 : ¬ tt = 8) : regOf s c W = nn := by
 unfold regOf
 rw [if_neg (fun h => H3 (by rw [Q2.out]; exact pow_3.2 h)), HV.out, Q1.out]
theorem i_register (s : ByteArray) (hs : s.size <= 32) (c : UInt8) (W : Nat) (hW : W < 4294967296) (w : World) :
 CS 296 #[.string s, .int .u8 (c.toNat : Int), .int .i64 W] (.int .i64 (regOf s c W)) w := by
 have hlen : (Pic.rv s.data.toList s.size).length <= 32 := by rw [Pic.rv_length _ _ (by simp)]; exact hs
 generalize hV : Pic.val (· == c) (Pic.rv s.data.toList s.size) W = V
 have HV : Hid (Pic.val (· == c) (Pic.rv s.data.toList s.size) W = V) := hV
 clear hV
 go_enter func296, ntmps296
 go_wp2
 go_loop [2, 7, 8, 9] (fun y n t k => ∃ j x nn tt : Nat, j <= s.size /\ x < 4294967296 /\ k = .int .i64 ((j : Int) - 1) /\ y = .int .i64 x /\ n = .int .i64 nn /\ t = .int .i64 tt /\
  Hid (nn + tt * Pic.val (· == c) (Pic.rv s.data.toList j) x = V /\ tt * 2 ^ Pic.cnt (· == c) (Pic.rv s.data.toList j) = 2 ^ Pic.cnt (· == c) (Pic.rv s.data.toList s.size))) (fun _ _ _ k => (intOf k + 1).toNat)
 case atStart => exact ⟨s.size, W, 0, 1, Nat.le_refl _, hW, rfl, rfl, rfl, rfl, ⟨by rw [HV.out]; omega, by omega⟩⟩
 case round =>
  obtain ⟨j, x, nn, tt, hj, hx, rfl, rfl, rfl, rfl, hh⟩ := hrel
  obtain ⟨b1, b2, b3⟩ := val_bd hlen HV.out.symm hh
  cases j with
  | zero =>
   obtain ⟨q1, q2⟩ := hh.out
   simp only [Pic.rv_zero, Pic.val, Pic.cnt, Nat.mul_zero, Nat.add_zero, Nat.pow_zero, Nat.mul_one] at q1 q2
   have Q2 : Hid (tt = 2 ^ Pic.cnt (· == c) (Pic.rv s.data.toList s.size)) := q2
   have Q1 : Hid (nn = V) := q1
   clear q1 q2 hh
   by_cases h3 : tt = 8
   . have h4 : ((tt : Int) == 8) = true := by rw [beq_iff_eq]; omega
     have H3 : Hid (tt = 8) := h3
     clear h3
     go_wp2
     go_ret
     exact ⟨congrArg (fun z => Ending.returned (Value.int .i64 z)) (by rw [reg_8 HV Q1 Q2 H3]; omega), rfl⟩
   . have h4 : ((tt : Int) == 8) = false := by rw [beq_eq_false_iff_ne]; omega
     go_wp2
     go_ret
     exact ⟨congrArg (fun z => Ending.returned (Value.int .i64 z)) (by rw [reg_n HV Q1 Q2 h3]), rfl⟩
  | succ i =>
   have e : ((i + 1 : Nat) : Int) - 1 = (i : Int) := by omega
   rw [e]
   have hi : i < s.size := by omega
   rw [rv_at s i hi] at hh
   by_cases hc : s[i] = c
   . have hc' : (s[i].toNat : Int) == c.toNat := by rw [hc]; simp
     have hm : (fun z => z == c) s[i] = true := by simp [hc]
     have H2 := val_hit (m := (· == c)) (c := s[i]) hm hh
     have HC : Hid (s[i] = c) := hc
     clear hc hh hm
     have bb := (val_bd hlen HV.out.symm H2).1
     rcases Nat.mod_two_eq_zero_or_one x with hp | hp
     . have h1 : bits BinOp.and IntKind.i64 (x : Int) 1 = 0 := by rw [and_one]; omega
       rw [hp] at H2 bb
       have HP : Hid (x % 2 = 0) := hp
       clear hp
       go_wp2
       go_round
       case rel => exact ⟨i, x / 2, nn, tt * 2, by omega, by omega, by go_num, by go_num, by go_num, by go_num, by simpa using H2⟩
       case measure => simp [intOf]
     . have h1 : bits BinOp.and IntKind.i64 (x : Int) 1 = 1 := by rw [and_one]; omega
       rw [hp] at H2 bb
       have HP : Hid (x % 2 = 1) := hp
       clear hp
       go_wp2
       go_round
       case rel => exact ⟨i, x / 2, nn + tt, tt * 2, by omega, by omega, by go_num, by go_num, by go_num, by go_num, by simpa using H2⟩
       case measure => simp [intOf]
   . have hc' : ((s[i].toNat : Int) == c.toNat) = false := by
      rw [beq_eq_false_iff_ne]; intro h; exact hc (UInt8.toNat_inj.1 (by omega))
     have hm : (fun z => z == c) s[i] = false := by simp [hc]
     have H2 := val_miss (m := (· == c)) (c := s[i]) hm hh
     clear hc hh hm
     go_wp2
     exact zq209
theorem ret_intE {k : IntKind} {a b : Int} (h : a = b) : Ending.returned (.int k a) = .returned (.int k b) := by rw [h]
theorem ret_boolE {a b : Bool} (h : a = b) : Ending.returned (.bool a) = .returned (.bool b) := by rw [h]
theorem x_word (v : Int) (w : World) :
 CS 135 #[.int .i64 v] (.int .i64 (wordN v)) w := by
 have h : bits .and .i64 v 4294967295 = (wordN v : Int) := by rw [wordN_cast]; exact and_mask v 32 (by decide)
 go_enter func135, ntmps135
 exact zq210
def xextD (v n : Int) : Int := if n = 1 then (if 128 <= v then v - 256 else v) else if n = 2 then (if 32768 <= v then v - 65536 else v) else (if 2147483648 <= v then v - 4294967296 else v)
theorem x_extended (v n : Int) (h0 : 0 <= v) (hv : v < 4294967296) (w : World) :
 CS 270 #[.int .i64 v, .int .i64 n] (.int .i64 (xextD v n)) w := by
 obtain ⟨T, hT⟩ := zn1 (xextD v n)
 rw [<- hT]
 unfold xextD at hT
 have HT := hide1 hT
 clear hT
 go_enter func270, ntmps270
 go_wp2_with fail
 all_goals (go_ret; refine ⟨ret_intE ?_, rfl⟩; rw [HT.out]; simp_all; try omega)
theorem x_signed (v : Nat) (hv : v < 4294967296) (w : World) :
 CS 263 #[.int .i64 v] (.int .i64 (sgn v)) w := by
 have e : sgn v = xextD v 4 := by unfold sgn xextD; simp
 rw [e]
 have E := hide1 (x_extended v 4 (by omega) (by omega) w)
 clear e
 go_enter func263, ntmps263
 go_wp2_with (go_at_call 270; refine E.out.mono ?_; rintro e w' ⟨rfl, rfl⟩)
 exact zq196
theorem x_oneIf (b : Bool) (w : World) :
 CS 255 #[.bool b] (.int .i64 (b.toNat : Int)) w := by
 cases b
 all_goals
  go_enter func255, ntmps255
  go_wp2_with fail
  go_ret
  exact ⟨rfl, rfl⟩
theorem x_choose (c : Bool) (a b : Int) (w : World) :
 CS 347 #[.bool c, .int .i64 a, .int .i64 b] (.int .i64 (bif c then a else b)) w := by
 cases c
 all_goals
  go_enter func347, ntmps347
  go_wp2_with fail
  go_ret
  exact ⟨rfl, rfl⟩
def xhbD (v n : Nat) : Bool := decide (v / 2 ^ n % 2 = 1)
theorem shr_nat (v n : Nat) (hv : v < 4294967296) : (v : Int) / 2 ^ min n 64 = ((v / 2 ^ n : Nat) : Int) := by
 by_cases h : n <= 64
 . rw [Nat.min_eq_left h]; simp
 . have e1 : v / 2 ^ n = 0 := by
    apply Nat.div_eq_of_lt
    exact Nat.lt_of_lt_of_le hv (Nat.le_trans (show 4294967296 <= 2 ^ 32 by decide) (Nat.pow_le_pow_right (by omega) (by omega)))
   have e2 : min n 64 = 64 := by omega
   rw [e1, e2]
   have : (2 : Int) ^ 64 = 18446744073709551616 := by decide
   rw [this]; omega
theorem x_hasBit (v n : Nat) (hv : v < 4294967296) (w : World) :
 CS 187 #[.int .i64 v, .int .i64 n] (.bool (xhbD v n)) w := by
 have h := shr_nat v n hv
 have h2 : bits .and .i64 ((v / 2 ^ n : Nat) : Int) 1 = ((v / 2 ^ n % 2 : Nat) : Int) := by rw [and_one]; simp
 obtain ⟨q, hq⟩ := zn1 (v / 2 ^ n)
 rw [<- hq] at h h2
 have hh : xhbD v n = decide (q % 2 = 1) := by rw [hq]; rfl
 rw [hh]
 clear hq hh
 have hp : (((q % 2 : Nat) : Int) != 0) = decide (q % 2 = 1) := by
  rcases Nat.mod_two_eq_zero_or_one q with e | e <;> rw [e] <;> rfl
 obtain ⟨r, hr⟩ := zn1 (q % 2)
 rw [<- hr] at h2 hp |-
 clear hr
 go_enter func187, ntmps187
 exact zq210
theorem x_setIf (v m : Nat) (so : Bool) (hv : v < 4294967296) (hm : m < 4294967296) (w : World) :
 CS 258 #[.int .i64 v, .int .i64 m, .bool so] (.int .i64 ((bif so then v ||| m else wout v m : Nat) : Int)) w := by
 have h1 := b_or v m (by omega) (by omega)
 have h2 := b_andn v m (by omega) (by omega)
 cases so
 all_goals
  go_enter func258, ntmps258
  go_wp2_with fail
  go_ret
  exact ⟨rfl, rfl⟩
def xmixD (a v m : Nat) : Nat := wout a m ||| (v &&& m)
theorem x_mixed (a v m : Nat) (ha : a < 4294967296) (hv : v < 4294967296) (hm : m < 4294967296) (w : World) :
 CS 259 #[.int .i64 a, .int .i64 v, .int .i64 m] (.int .i64 (xmixD a v m : Nat)) w := by
 have h1 := b_andn a m (by omega) (by omega)
 have h2 := b_and v m (by omega) (by omega)
 have h3 := b_or (wout a m) (v &&& m) (Nat.lt_of_le_of_lt (wout_le _ _) (by omega)) (Nat.lt_of_le_of_lt Nat.and_le_left (by omega))
 go_enter func259, ntmps259
 exact zq210
def xregD (op : Int) : Int := if op = 20 then 31 else if op = 21 then 32 else if op = 22 then 33 else if op = 23 then 36 else if op = 24 then 37 else if op = 25 then 30 else if op = 26 then 34 else if op = 27 then 35 else 28
theorem x_registerForm (op : Int) (w : World) :
 CS 265 #[.int .i64 op] (.int .i64 (xregD op)) w := by
 obtain ⟨T, hT⟩ := zn1 (xregD op)
 rw [<- hT]
 unfold xregD at hT
 have HT := hide1 hT
 clear hT
 go_enter func265, ntmps265
 exact zq211
theorem shr_min (v : Int) (n : Nat) (h : n < 32) : v / 2 ^ min n 64 = v / ((2 ^ n : Nat) : Int) := by rw [Nat.min_eq_left (by omega)]; simp
theorem and31 (b : Nat) : bits .and .i64 (b : Int) 31 = ((b % 32 : Nat) : Int) := by
 have := and_mask (b : Int) 5 (by decide)
 have e : ((2 : Int) ^ 5) = 32 := by decide
 have e2 : ((2 ^ 5 - 1 : Nat) : Int) = 31 := by decide
 exact zq212
theorem wordN_nat (n : Nat) : wordN (n : Int) = n % 4294967296 := by unfold wordN; omega
theorem wordN_of (n : Nat) (h : n < 4294967296) : wordN (n : Int) = n := by unfold wordN; omega
end Go.Proofs.YtmlgonbhoknoiabGreatDoor
