import Derived.Test.YtmlgonbhoknoiabGreatDoorWQ
set_option maxHeartbeats 8000000
set_option linter.all false
namespace Go.Proofs.YtmlgonbhoknoiabGreatDoor
open Go.RowKit Go.Proofs.Tryz
namespace Byt
def dig (c : UInt8) : Bool := decide (48 <= c.toNat) && decide (c.toNat <= 57)
def letr (c : UInt8) : Bool := (decide (97 <= c.toNat) && decide (c.toNat <= 122)) || (decide (65 <= c.toNat) && decide (c.toNat <= 90)) || decide (c.toNat = 95) || decide (c.toNat = 46)
def nmc (c : UInt8) : Bool := letr c || dig c
def inn (c : UInt8) : Bool := nmc c || decide (c.toNat = 45)
def blank (c : UInt8) : Bool := decide (c.toNat = 32) || decide (c.toNat = 9)
def hexv (c : UInt8) : Nat := if 48 <= c.toNat /\ c.toNat <= 57 then c.toNat - 48 else if 97 <= c.toNat /\ c.toNat <= 102 then c.toNat - 87 else if 65 <= c.toNat /\ c.toNat <= 70 then c.toNat - 55 else 16
end Byt
theorem u8_bd (c : UInt8) : c.toNat <= 255 := by have := c.toNat_lt; omega
theorem a_isDigit (c : UInt8) (w : World) :
 CS 308 #[.int .u8 (c.toNat : Int)] (.bool (Byt.dig c)) w := by
 have hbd := u8_bd c
 by_cases k0 : c.toNat <= 47
 . have l0 : 0 <= c.toNat := by omega
   have vv : Byt.dig c = false := zq0
   rw [vv]
   skip
   exact zq179
 by_cases k1 : c.toNat <= 57
 . have l0 : 48 <= c.toNat := by omega
   have vv : Byt.dig c = true := zq0
   rw [vv]
   clear k0
   exact zq179
 have l0 : 58 <= c.toNat := by omega
 have vv : Byt.dig c = false := zq0
 rw [vv]
 clear k0 k1
 exact zq179
theorem a_isBlank (c : UInt8) (w : World) :
 CS 219 #[.int .u8 (c.toNat : Int)] (.bool (Byt.blank c)) w := by
 have hbd := u8_bd c
 by_cases k0 : c.toNat <= 8
 . have l0 : 0 <= c.toNat := by omega
   have vv : Byt.blank c = false := zq1
   rw [vv]
   skip
   exact zq180
 by_cases k1 : c.toNat <= 9
 . have l0 : 9 <= c.toNat := by omega
   have vv : Byt.blank c = true := zq1
   rw [vv]
   clear k0
   exact zq180
 by_cases k2 : c.toNat <= 31
 . have l0 : 10 <= c.toNat := by omega
   have vv : Byt.blank c = false := zq1
   rw [vv]
   clear k0 k1
   exact zq180
 by_cases k3 : c.toNat <= 32
 . have l0 : 32 <= c.toNat := by omega
   have vv : Byt.blank c = true := zq1
   rw [vv]
   clear k0 k1 k2
   exact zq180
 have l0 : 33 <= c.toNat := by omega
 have vv : Byt.blank c = false := zq1
 rw [vv]
 clear k0 k1 k2 k3
 exact zq180
theorem a_isNameByte (c : UInt8) (w : World) :
 CS 307 #[.int .u8 (c.toNat : Int)] (.bool (Byt.nmc c)) w := by
 have hbd := u8_bd c
 by_cases k0 : c.toNat <= 45
 . have l0 : 0 <= c.toNat := by omega
   have v_a_isDigit : Byt.dig c = false := zq0
   have vv : Byt.nmc c = false := zq2
   rw [vv]
   skip
   exact zq181
 by_cases k1 : c.toNat <= 46
 . have l0 : 46 <= c.toNat := by omega
   have v_a_isDigit : Byt.dig c = false := zq0
   have vv : Byt.nmc c = true := zq2
   rw [vv]
   clear k0
   exact zq181
 by_cases k2 : c.toNat <= 47
 . have l0 : 47 <= c.toNat := by omega
   have v_a_isDigit : Byt.dig c = false := zq0
   have vv : Byt.nmc c = false := zq2
   rw [vv]
   clear k0 k1
   exact zq181
 by_cases k3 : c.toNat <= 57
 . have l0 : 48 <= c.toNat := by omega
   have v_a_isDigit : Byt.dig c = true := zq0
   have vv : Byt.nmc c = true := zq2
   rw [vv]
   clear k0 k1 k2
   exact zq181
 by_cases k4 : c.toNat <= 64
 . have l0 : 58 <= c.toNat := by omega
   have v_a_isDigit : Byt.dig c = false := zq0
   have vv : Byt.nmc c = false := zq2
   rw [vv]
   clear k0 k1 k2 k3
   exact zq181
 by_cases k5 : c.toNat <= 90
 . have l0 : 65 <= c.toNat := by omega
   have v_a_isDigit : Byt.dig c = false := zq0
   have vv : Byt.nmc c = true := zq2
   rw [vv]
   clear k0 k1 k2 k3 k4
   exact zq181
 by_cases k6 : c.toNat <= 94
 . have l0 : 91 <= c.toNat := by omega
   have v_a_isDigit : Byt.dig c = false := zq0
   have vv : Byt.nmc c = false := zq2
   rw [vv]
   clear k0 k1 k2 k3 k4 k5
   exact zq181
 by_cases k7 : c.toNat <= 95
 . have l0 : 95 <= c.toNat := by omega
   have v_a_isDigit : Byt.dig c = false := zq0
   have vv : Byt.nmc c = true := zq2
   rw [vv]
   clear k0 k1 k2 k3 k4 k5 k6
   exact zq181
 by_cases k8 : c.toNat <= 96
 . have l0 : 96 <= c.toNat := by omega
   have v_a_isDigit : Byt.dig c = false := zq0
   have vv : Byt.nmc c = false := zq2
   rw [vv]
   clear k0 k1 k2 k3 k4 k5 k6 k7
   exact zq181
 by_cases k9 : c.toNat <= 122
 . have l0 : 97 <= c.toNat := by omega
   have v_a_isDigit : Byt.dig c = false := zq0
   have vv : Byt.nmc c = true := zq2
   rw [vv]
   clear k0 k1 k2 k3 k4 k5 k6 k7 k8
   exact zq181
 have l0 : 123 <= c.toNat := by omega
 have v_a_isDigit : Byt.dig c = false := zq0
 have vv : Byt.nmc c = false := zq2
 rw [vv]
 clear k0 k1 k2 k3 k4 k5 k6 k7 k8 k9
 exact zq181
theorem hide1 {p : Prop} (h : p) : Hid p := h
theorem a_digitValue (c : UInt8) (w : World) :
 CS 442 #[.int .u8 (c.toNat : Int)] (.int .i64 ((Byt.hexv c : Nat))) w := by
 have hbd := u8_bd c
 by_cases k0 : c.toNat <= 47
 . have l0 : 0 <= c.toNat := by omega
   have vv : Byt.hexv c = 16 := zq3
   have vd : Byt.dig c = false := zq0
   rw [vv]
   skip
   exact zq182
 by_cases k1 : c.toNat <= 57
 . have l0 : 48 <= c.toNat := by omega
   have vv : Byt.hexv c = c.toNat - 48 := by unfold Byt.hexv; rw [if_pos (by omega)]
   have vd : Byt.dig c = true := zq0
   rw [vv]
   clear k0
   exact zq182
 by_cases k2 : c.toNat <= 64
 . have l0 : 58 <= c.toNat := by omega
   have vv : Byt.hexv c = 16 := zq3
   have vd : Byt.dig c = false := zq0
   rw [vv]
   clear k0 k1
   exact zq182
 by_cases k3 : c.toNat <= 70
 . have l0 : 65 <= c.toNat := by omega
   have vv : Byt.hexv c = c.toNat - 55 := by unfold Byt.hexv; rw [if_neg (by omega), if_neg (by omega), if_pos (by omega)]
   have vd : Byt.dig c = false := zq0
   rw [vv]
   clear k0 k1 k2
   exact zq182
 by_cases k4 : c.toNat <= 96
 . have l0 : 71 <= c.toNat := by omega
   have vv : Byt.hexv c = 16 := zq3
   have vd : Byt.dig c = false := zq0
   rw [vv]
   clear k0 k1 k2 k3
   exact zq182
 by_cases k5 : c.toNat <= 102
 . have l0 : 97 <= c.toNat := by omega
   have vv : Byt.hexv c = c.toNat - 87 := by unfold Byt.hexv; rw [if_neg (by omega), if_pos (by omega)]
   have vd : Byt.dig c = false := zq0
   rw [vv]
   clear k0 k1 k2 k3 k4
   exact zq182
 have l0 : 103 <= c.toNat := by omega
 have vv : Byt.hexv c = 16 := zq3
 have vd : Byt.dig c = false := zq0
 rw [vv]
 clear k0 k1 k2 k3 k4 k5
 exact zq182
namespace Byt
def digs (base : Nat) : Nat -> List UInt8 -> Option Nat
 | acc, [] => some acc
 | acc, c :: l => if base <= hexv c then none else digs base (acc * base + hexv c) l
def rdig (base most : Nat) (l : List UInt8) : Option Nat := if l.length < 1 \/ most < l.length then none else digs base 0 l
end Byt
theorem dropb (s : ByteArray) (i : Nat) (h : i < s.size) : s.data.toList.drop i = s[i] :: s.data.toList.drop (i + 1) := by
 rw [List.drop_eq_getElem_cons (by simpa using h)]; rfl
theorem digs_hit {base acc : Nat} {s : ByteArray} {i : Nat} {T : Option Nat} (hi : i < s.size) (h : Byt.hexv s[i] < base) (hh : Hid (Byt.digs base acc (s.data.toList.drop i) = T)) : Hid (Byt.digs base (acc * base + Byt.hexv s[i]) (s.data.toList.drop (i + 1)) = T) := by
 have := hh.out
 rw [dropb s i hi] at this
 simp only [Byt.digs, if_neg (show ¬ base <= Byt.hexv s[i] by omega)] at this
 exact this
theorem digs_miss {base acc : Nat} {s : ByteArray} {i : Nat} {T : Option Nat} (hi : i < s.size) (h : base <= Byt.hexv s[i]) (hh : Hid (Byt.digs base acc (s.data.toList.drop i) = T)) : T = none := by
 have := hh.out
 rw [dropb s i hi] at this
 simp only [Byt.digs, if_pos h] at this
 exact this.symm
theorem a_readDigits_10 (s : ByteArray) (hs : s.size <= 5000) (w : World) :
 Calls prog 410 #[.string s, .int .i64 10, .int .i64 10] w fun e w' => (∃ o : Option Nat, Hid (Byt.rdig 10 10 s.data.toList = o) /\ o.getD 0 <= 10000000000 /\ e = .returned (.tuple #[.int .i64 (o.getD 0 : Nat), .bool o.isSome])) /\ w' = w := by
 have hlen : s.data.toList.length = s.size := by simp
 by_cases c1 : s.size < 1
 . exact zq183
 by_cases c2 : 10 < s.size
 . exact zq183
 have hr : Byt.rdig 10 10 s.data.toList = Byt.digs 10 0 (s.data.toList.drop 0) := by unfold Byt.rdig; rw [if_neg (by omega)]; rfl
 rw [hr]
 obtain ⟨T, hT⟩ := zn1 (Byt.digs 10 0 (s.data.toList.drop 0))
 rw [<- hT]
 have HT : Hid (Byt.digs 10 0 (s.data.toList.drop 0) = T) := hT.symm
 clear hT hr hlen
 go_enter func410, ntmps410
 go_wp2
 go_loop [8, 9] (fun a d => ∃ i acc : Nat, i <= s.size /\ a = .int .i64 acc /\ d = .int .i64 i /\ Hid (acc + 1 <= 10 ^ i) /\ Hid (Byt.digs 10 acc (s.data.toList.drop i) = T)) (fun _ d => s.size - (intOf d).toNat)
 case atStart => exact ⟨0, 0, by omega, rfl, rfl, (by decide : 0 + 1 <= 10 ^ 0), HT⟩
 case round =>
  obtain ⟨i, acc, hi0, rfl, rfl, hac, hh⟩ := hrel
  have ba : acc <= 10000000000 := by
   have h1 := hac.out
   have h2 : 10 ^ i <= 10 ^ 10 := zq4
   have h3 : ((10 : Nat) ^ 10) = 10000000000 := by decide
   omega
  by_cases hi : i < s.size
  . go_wp2_with fail
    refine (a_digitValue s[i] _).mono ?_
    rintro e w' ⟨rfl, rfl⟩
    obtain ⟨d, hd⟩ := zn1 (Byt.hexv s[i])
    rw [<- hd]
    have HD := hide1 hd
    clear hd
    by_cases hlt : 10 <= d
    . exact zq184
    . have hn := digs_hit hi (by rw [<- HD.out]; omega) hh
      rw [<- HD.out] at hn
      clear hh
      have hac' : Hid (acc * 10 + d + 1 <= 10 ^ (i + 1)) := by
       show _ <= _
       have h1 := hac.out
       have h2 : (acc + 1) * 10 <= 10 ^ i * 10 := Nat.mul_le_mul_right _ h1
       rw [Nat.pow_succ]; omega
      clear hac
      go_wp2
      go_round
      case rel => exact ⟨i + 1, acc * 10 + d, by omega, by go_num, by go_num, hac', hn⟩
      case measure => exact zq186
  . exact zq185
theorem a_readDigits_16 (s : ByteArray) (hs : s.size <= 5000) (w : World) :
 Calls prog 410 #[.string s, .int .i64 16, .int .i64 8] w fun e w' => (∃ o : Option Nat, Hid (Byt.rdig 16 8 s.data.toList = o) /\ o.getD 0 <= 4294967296 /\ e = .returned (.tuple #[.int .i64 (o.getD 0 : Nat), .bool o.isSome])) /\ w' = w := by
 have hlen : s.data.toList.length = s.size := by simp
 by_cases c1 : s.size < 1
 . exact zq183
 by_cases c2 : 8 < s.size
 . exact zq183
 have hr : Byt.rdig 16 8 s.data.toList = Byt.digs 16 0 (s.data.toList.drop 0) := by unfold Byt.rdig; rw [if_neg (by omega)]; rfl
 rw [hr]
 obtain ⟨T, hT⟩ := zn1 (Byt.digs 16 0 (s.data.toList.drop 0))
 rw [<- hT]
 have HT : Hid (Byt.digs 16 0 (s.data.toList.drop 0) = T) := hT.symm
 clear hT hr hlen
 go_enter func410, ntmps410
 go_wp2
 go_loop [8, 9] (fun a d => ∃ i acc : Nat, i <= s.size /\ a = .int .i64 acc /\ d = .int .i64 i /\ Hid (acc + 1 <= 16 ^ i) /\ Hid (Byt.digs 16 acc (s.data.toList.drop i) = T)) (fun _ d => s.size - (intOf d).toNat)
 case atStart => exact ⟨0, 0, by omega, rfl, rfl, (by decide : 0 + 1 <= 16 ^ 0), HT⟩
 case round =>
  obtain ⟨i, acc, hi0, rfl, rfl, hac, hh⟩ := hrel
  have ba : acc <= 4294967296 := by
   have h1 := hac.out
   have h2 : 16 ^ i <= 16 ^ 8 := zq4
   have h3 : ((16 : Nat) ^ 8) = 4294967296 := by decide
   omega
  by_cases hi : i < s.size
  . go_wp2_with fail
    refine (a_digitValue s[i] _).mono ?_
    rintro e w' ⟨rfl, rfl⟩
    obtain ⟨d, hd⟩ := zn1 (Byt.hexv s[i])
    rw [<- hd]
    have HD := hide1 hd
    clear hd
    by_cases hlt : 16 <= d
    . exact zq184
    . have hn := digs_hit hi (by rw [<- HD.out]; omega) hh
      rw [<- HD.out] at hn
      clear hh
      have hac' : Hid (acc * 16 + d + 1 <= 16 ^ (i + 1)) := by
       show _ <= _
       have h1 := hac.out
       have h2 : (acc + 1) * 16 <= 16 ^ i * 16 := Nat.mul_le_mul_right _ h1
       rw [Nat.pow_succ]; omega
      clear hac
      go_wp2
      go_round
      case rel => exact ⟨i + 1, acc * 16 + d, by omega, by go_num, by go_num, hac', hn⟩
      case measure => exact zq186
  . exact zq185
namespace Byt
def rowEnd (l : List UInt8) : Nat := match l with
 | [] => 0
 | c :: l => if inn c = true then rowEnd l + 1 else 0
def isName (l : List UInt8) : Bool := match l with
 | [] => false
 | c :: _ => !(dig c) && l.all nmc
def plain (l : List UInt8) : Option Nat :=
 if 2 < l.length /\ l[0]? = some 48 /\ l[1]? = some 120 then rdig 16 8 (l.drop 2) else rdig 10 10 l
end Byt
theorem rowEnd_le : ∀ l : List UInt8, Byt.rowEnd l <= l.length
 | [] => by simp [Byt.rowEnd]
 | c :: l => by
  have := rowEnd_le l
  simp only [Byt.rowEnd, List.length_cons]; split <;> omega
theorem inn_of (c : UInt8) : Byt.inn c = (Byt.nmc c || ((c.toNat : Int) == 45)) := by
 unfold Byt.inn
 congr 1
 rw [Bool.eq_iff_iff, decide_eq_true_eq, beq_iff_eq]; omega
theorem a_rowEnd (s : ByteArray) (hs : s.size <= 5000) (a : Nat) (ha : a <= s.size) (w : World) :
 CS 218 #[.string s, .int .i64 a] (.int .i64 (a + Byt.rowEnd (s.data.toList.drop a) : Nat)) w := by
 obtain ⟨T, hT⟩ := zn1 (a + Byt.rowEnd (s.data.toList.drop a))
 rw [<- hT]
 have HT := hide1 hT
 clear hT
 go_enter func218, ntmps218
 go_wp2
 go_loop [1] (fun d => ∃ i : Nat, i <= s.size /\ d = .int .i64 i /\ Hid (T = i + Byt.rowEnd (s.data.toList.drop i))) (fun d => s.size - (intOf d).toNat)
 case atStart => exact ⟨a, ha, rfl, HT⟩
 case round =>
  obtain ⟨i, hi0, rfl, hh⟩ := hrel
  by_cases hi : i < s.size
  . rw [dropb s i hi] at hh
    have hin := inn_of s[i]
    cases hn : Byt.nmc s[i]
    . cases h45 : ((s[i].toNat : Int) == 45)
      . have hT : Hid (T = i) := (by rw [hh.out]; simp only [Byt.rowEnd]; rw [hin, hn, h45, if_neg (by decide)]; rfl : T = i)
        clear hh hin
        go_wp2_with (go_at_call 307; refine (a_isNameByte _ _).mono ?_; rintro e w' ⟨rfl, rfl⟩)
        exact zq187
      . have hv : Hid (T = i + 1 + Byt.rowEnd (s.data.toList.drop (i + 1))) := (by rw [hh.out]; simp only [Byt.rowEnd]; rw [hin, hn, h45, if_pos (by rfl)]; omega : _ = _)
        exact zq188
    . have hv : Hid (T = i + 1 + Byt.rowEnd (s.data.toList.drop (i + 1))) := (by rw [hh.out]; simp only [Byt.rowEnd]; rw [hin, hn, if_pos (by rfl)]; omega : _ = _)
      exact zq188
  . obtain rfl : i = s.size := by omega
    have hd : s.data.toList.drop s.size = [] := zq5
    rw [hd] at hh
    have hT : Hid (T = s.size) := hh
    have hlt : decide ((s.size : Int) < (s.size : Int)) = false := by simp
    clear hh hd
    exact zq189
theorem empty_of {s : ByteArray} (h : s.size = 0) : s.toList.isEmpty = true := by
 rw [Lib.toList_data, List.isEmpty_iff]; exact List.eq_nil_of_length_eq_zero (by simpa using h)
theorem nonempty_of {s : ByteArray} (h : 0 < s.size) : s.toList.isEmpty = false := by
 rw [Lib.toList_data]
 cases hd : s.data.toList with
 | nil =>
  have : s.data.toList.length = s.size := by simp
  rw [hd] at this; simp at this; omega
 | cons a l => rfl
theorem a_isName (s : ByteArray) (hs : s.size <= 5000) (w : World) :
 CS 220 #[.string s] (.bool (Byt.isName s.data.toList)) w := by
 by_cases h0 : s.size = 0
 . have hl : s.data.toList = [] := List.eq_nil_of_length_eq_zero (by simpa using h0)
   have he := empty_of h0
   rw [show Byt.isName s.data.toList = false by rw [hl]; rfl]
   clear hl h0
   go_enter func220, ntmps220
   exact zq190
 . have hp : 0 < s.size := by omega
   have he := nonempty_of hp
   have hn : Byt.isName s.data.toList = (!(Byt.dig s[0]) && (s.data.toList.drop 0).all Byt.nmc) := by
    have h := dropb s 0 hp
    rw [List.drop_zero] at h
    conv => lhs; rw [h]
    simp only [Byt.isName]
    rw [<- h]; rfl
   rw [hn]
   clear hn h0
   cases hd : Byt.dig s[0]
   . rw [Bool.not_false, Bool.true_and]
     obtain ⟨T, hT⟩ := zn1 ((s.data.toList.drop 0).all Byt.nmc)
     rw [<- hT]
     have HT := hide1 hT
     clear hT
     go_enter func220, ntmps220
     go_wp2_with (go_at_call 308; refine (a_isDigit _ _).mono ?_; rintro e w' ⟨rfl, rfl⟩)
     go_loop [3] (fun d => ∃ i : Nat, i <= s.size /\ d = .int .i64 i /\ Hid (T = (s.data.toList.drop i).all Byt.nmc)) (fun d => s.size - (intOf d).toNat)
     case atStart => exact ⟨0, by omega, rfl, HT⟩
     case round =>
      obtain ⟨i, hi0, rfl, hh⟩ := hrel
      by_cases hi : i < s.size
      . rw [dropb s i hi, show (s[i] :: s.data.toList.drop (i + 1)).all Byt.nmc = (Byt.nmc s[i] && (s.data.toList.drop (i + 1)).all Byt.nmc) from rfl] at hh
        cases hn : Byt.nmc s[i]
        . rw [hn, Bool.false_and] at hh
          go_wp2_with (go_at_call 307; refine (a_isNameByte _ _).mono ?_; rintro e w' ⟨rfl, rfl⟩)
          go_ret
          exact ⟨by rw [hh.out]; rfl, rfl⟩
        . rw [hn, Bool.true_and] at hh
          go_wp2_with (go_at_call 307; refine (a_isNameByte _ _).mono ?_; rintro e w' ⟨rfl, rfl⟩)
          go_round
          case rel => exact ⟨i + 1, by omega, by go_num, hh⟩
          case measure => exact zq186
      . obtain rfl : i = s.size := by omega
        have hdr : s.data.toList.drop s.size = [] := zq5
        rw [hdr] at hh
        have hT : Hid (T = true) := hh
        clear hh hdr
        exact zq189
   . go_enter func220, ntmps220
     go_wp2_with (go_at_call 308; refine (a_isDigit _ _).mono ?_; rintro e w' ⟨rfl, rfl⟩)
     exact zq191
theorem get0 (s : ByteArray) (i : Nat) (h : i < s.size) : s.data.toList[i]? = some s[i] := by
 rw [List.getElem?_eq_getElem (by simpa using h)]; rfl
theorem u8e {c : UInt8} {n : Nat} (hn : n < 256) : (c.toNat : Int) = n ↔ c = UInt8.ofNat n := zq192
theorem plain_hex {s : ByteArray} (h : 2 < s.size) (h0 : ((s[0].toNat : Int) == 48) = true) (h1 : ((s[1].toNat : Int) == 120) = true) : Byt.plain s.data.toList = Byt.rdig 16 8 (s.extract 2 s.size).data.toList := by
 unfold Byt.plain
 replace h0 := (u8e (n := 48) (by decide)).1 (beq_iff_eq.1 h0)
 replace h1 := (u8e (n := 120) (by decide)).1 (beq_iff_eq.1 h1)
 rw [if_pos ⟨by simpa using h, by rw [get0 s 0 (by omega), h0]; rfl, by rw [get0 s 1 (by omega), h1]; rfl⟩, Lib.extract_to_end]
theorem plain_dec1 {s : ByteArray} (h : ¬ 2 < s.size) : Byt.plain s.data.toList = Byt.rdig 10 10 s.data.toList := by
 unfold Byt.plain; rw [if_neg (fun hh => h (by simpa using hh.1))]
theorem plain_dec2 {s : ByteArray} (h : 2 < s.size) (h0 : ((s[0].toNat : Int) == 48) = false) : Byt.plain s.data.toList = Byt.rdig 10 10 s.data.toList := by
 unfold Byt.plain
 replace h0 := fun e => (beq_eq_false_iff_ne.1 h0) ((u8e (n := 48) (by decide)).2 e)
 rw [if_neg (fun hh => h0 (by have := hh.2.1; rw [get0 s 0 (by omega)] at this; exact Option.some.inj this))]
theorem plain_dec3 {s : ByteArray} (h : 2 < s.size) (h1 : ((s[1].toNat : Int) == 120) = false) : Byt.plain s.data.toList = Byt.rdig 10 10 s.data.toList := by
 unfold Byt.plain
 replace h1 := fun e => (beq_eq_false_iff_ne.1 h1) ((u8e (n := 120) (by decide)).2 e)
 rw [if_neg (fun hh => h1 (by have := hh.2.2; rw [get0 s 1 (by omega)] at this; exact Option.some.inj this))]
theorem a_readPlain (s : ByteArray) (hs : s.size <= 5000) (w : World) :
 Calls prog 387 #[.string s] w fun e w' => (∃ o : Option Nat, Hid (Byt.plain s.data.toList = o) /\ o.getD 0 <= 10000000000 /\ e = .returned (.tuple #[.int .i64 (o.getD 0 : Nat), .bool o.isSome])) /\ w' = w := by
 by_cases c1 : 2 < s.size
 . cases h0 : ((s[0].toNat : Int) == 48)
   . have HP := hide1 (plain_dec2 c1 h0)
     exact zq193
   . cases h1 : ((s[1].toNat : Int) == 120)
     . have HP := hide1 (plain_dec3 c1 h1)
       exact zq193
     . have HP := hide1 (plain_hex c1 h0 h1)
       go_enter func387, ntmps387
       go_wp2_with fail
       refine (a_readDigits_16 (s.extract 2 s.size) (by simp; omega) _).mono ?_
       exact zq194
 . have HP := hide1 (plain_dec1 c1)
   exact zq193
namespace Byt
def number (l : List UInt8) : Int × Bool :=
 if l[0]? = some 45 then (-(((plain (l.drop 1)).getD 0 : Nat) : Int), (plain (l.drop 1)).isSome) else ((((plain l).getD 0 : Nat) : Int), (plain l).isSome)
end Byt
theorem number_neg {s : ByteArray} (h : 0 < s.size) (h0 : ((s[0].toNat : Int) == 45) = true) : Byt.number s.data.toList = (-(((Byt.plain (s.extract 1 s.size).data.toList).getD 0 : Nat) : Int), (Byt.plain (s.extract 1 s.size).data.toList).isSome) := by
 replace h0 := (u8e (n := 45) (by decide)).1 (beq_iff_eq.1 h0)
 unfold Byt.number
 rw [if_pos (by rw [get0 s 0 h, h0]; rfl), Lib.extract_to_end]
theorem number_pos {s : ByteArray} (h : ¬ (0 < s.size) \/ ∃ h : 0 < s.size, ((s[0].toNat : Int) == 45) = false) : Byt.number s.data.toList = ((((Byt.plain s.data.toList).getD 0 : Nat) : Int), (Byt.plain s.data.toList).isSome) := by
 unfold Byt.number
 rw [if_neg]
 intro hh
 rcases h with h | ⟨h, h0⟩
 . rw [List.getElem?_eq_none (by simp at h; simp [h])] at hh; cases hh
 . replace h0 := fun e => (beq_eq_false_iff_ne.1 h0) ((u8e (n := 45) (by decide)).2 e)
   rw [get0 s 0 h] at hh
   exact h0 (Option.some.inj hh)
theorem a_readNumber (s : ByteArray) (hs : s.size <= 5000) (w : World) :
 CS 357 #[.string s] (.tuple #[.int .i64 (Byt.number s.data.toList).1, .bool (Byt.number s.data.toList).2]) w := by
 by_cases c1 : 0 < s.size
 . cases h0 : ((s[0].toNat : Int) == 45)
   . have HP := hide1 (number_pos (.inr ⟨c1, h0⟩))
     exact zq195
   . have HP := hide1 (number_neg c1 h0)
     go_enter func357, ntmps357
     go_wp2_with fail
     refine (a_readPlain (s.extract 1 s.size) (by simp; omega) _).mono ?_
     exact zq196
 . have HP := hide1 (number_pos (.inl c1))
   have c2 : decide ((0 : Int) < (s.size : Int)) = false := by rw [decide_eq_false_iff_not]; omega
   exact zq195
namespace Byt
def tok : Nat -> List UInt8 -> List (List UInt8)
 | 0, _ => []
 | _ + 1, [] => []
 | f + 1, c :: l => if c.toNat = 35 then [] else if 0 < rowEnd (c :: l) then (c :: l).take (rowEnd (c :: l)) :: tok f ((c :: l).drop (rowEnd (c :: l))) else if blank c = true then tok f l else [c] :: tok f l
def strV (t : List UInt8) : Value := .string ⟨t.toArray⟩
end Byt
theorem tok_more : ∀ (f g : Nat) (l : List UInt8), l.length <= f -> l.length <= g -> Byt.tok f l = Byt.tok g l
 | 0, 0, _, _, _ => rfl
 | 0, g + 1, [], _, _ => rfl
 | f + 1, 0, [], _, _ => rfl
 | 0, _ + 1, c :: l, h, _ => by simp at h
 | _ + 1, 0, c :: l, _, h => by simp at h
 | f + 1, g + 1, [], _, _ => rfl
 | f + 1, g + 1, c :: l, h1, h2 => by
  simp only [List.length_cons] at h1 h2
  simp only [Byt.tok]
  by_cases c1 : c.toNat = 35
  . rw [if_pos c1, if_pos c1]
  . rw [if_neg c1, if_neg c1]
    by_cases c2 : 0 < Byt.rowEnd (c :: l)
    . rw [if_pos c2, if_pos c2, tok_more f g _ (by simp; omega) (by simp; omega)]
    . rw [if_neg c2, if_neg c2, tok_more f g l (by omega) (by omega)]
theorem ext_str (s : ByteArray) (a b : Nat) : Value.string (s.extract a b) = Byt.strV ((s.data.toList.drop a).take (b - a)) := by
 unfold Byt.strV
 congr 1
 have h := Lib.extract_data s a b
 cases hd : s.extract a b with
 | mk d =>
  rw [hd] at h
  simp only at h
  rw [<- h]
theorem Tryz.info9 : (prog.info? 9).map (fun i => (i.zero, i.size, i.bytes)) = some (some (.string ⟨#[]⟩), 1, 16) := by kernel_rfl
theorem slice_mid (s : ByteArray) (a b : Nat) (h1 : a <= b) (h2 : b <= s.size) (w : World) : (Instr.slice 9 (.string s) (some (.int .i64 (a : Int))) (some (.int .i64 (b : Int))) none).run prog w = .ok (.string (s.extract a b)) w := by
 rw [run_slice_string w 9 s .i64 .i64 a b Tryz.underlying9 (by omega) (by omega) (by omega)]
 simp
theorem a_tokens (s : ByteArray) (hs : s.size <= 5000) (w : World) :
 Calls prog 151 #[.string s] w fun e w' => ∃ v, e = .returned v /\ v ≠ .slice none 0 0 /\ w'.ownsRow w.heap.size 9 1 v (Byt.tok s.size s.data.toList).length ((Byt.tok s.size s.data.toList).map Byt.strV) /\ Below w.heap.size w w' := by
 have hmk : ∀ w, (Instr.makeSlice 162 (.int .i64 0) (.int .i64 0)).run prog w = .ok (.slice (some ⟨w.heap.size, 0, none⟩) 0 0) (w.alloc (.cells #[] 9)) := fun _ => by kernel_rfl
 obtain ⟨i0, hi, hz0, hz1, hz2⟩ := info_parts Tryz.info9
 obtain ⟨T, hT⟩ := zn1 (Byt.tok s.size s.data.toList)
 rw [<- hT]
 have HT := hide1 hT
 clear hT
 go_enter func151, ntmps151
 go_wp2
 go_loopw [3, 4] (fun v d wr => ∃ (a : Nat) (p : List (List UInt8)), a <= s.size /\ p.length <= a /\ d = .int .i64 a /\ v ≠ .slice none 0 0 /\ wr.ownsRow w.heap.size 9 1 v p.length (p.map Byt.strV) /\ Below w.heap.size w wr /\ Hid (T = p ++ Byt.tok (s.size - a) (s.data.toList.drop a))) (fun _ d _ => s.size - (intOf d).toNat)
 case atStart => exact ⟨0, [], by omega, by simp, rfl, by simp, World.ownsRow_made w _ 0 (Nat.le_refl _) zq467 rfl, (Below.refl _ _).alloc (Nat.le_refl _) _, HT⟩
 case round =>
  obtain ⟨a, p, ha, hpl, rfl, hnn, hown, hb, hh⟩ := hrel
  by_cases hlt : a < s.size
  . have hdr := dropb s a hlt
    have hf : s.size - a = (s.size - a - 1) + 1 := by omega
    have hbs := hb.size
    have hrow : ∀ j, u3.ownBlock = some j -> w.heap.size <= j := fun j hj => (hown.lt j hj).1
    by_cases c35 : s[a].toNat = 35
    . have c35' : ((s[a].toNat : Int) != 35) = false := by simp; omega
      have hT : Hid (T = p) := (by rw [hh.out, hdr, hf]; simp only [Byt.tok]; rw [if_pos c35]; simp : T = p)
      clear hh hdr hf c35
      go_wp2
      go_ret
      exact ⟨_, rfl, hnn, by rw [hT.out]; exact hown, hb⟩
    . have c35' : ((s[a].toNat : Int) != 35) = true := by simp; omega
      have hre : Byt.rowEnd (s.data.toList.drop a) <= s.size - a := by have := rowEnd_le (s.data.toList.drop a); simp at this; exact this
      obtain ⟨r, hr⟩ := zn1 (Byt.rowEnd (s.data.toList.drop a))
      rw [<- hr] at hre
      have HR := hide1 hr
      have hstep : T = p ++ (if 0 < r then (s.data.toList.drop a).take r :: Byt.tok (s.size - a - 1) ((s.data.toList.drop a).drop r) else if Byt.blank s[a] = true then Byt.tok (s.size - a - 1) (s.data.toList.drop (a + 1)) else [s[a]] :: Byt.tok (s.size - a - 1) (s.data.toList.drop (a + 1))) := by
       rw [hh.out, hr, hf, hdr]; simp only [Byt.tok]; rw [if_neg c35]; simp only [Nat.add_sub_cancel]
      clear hr hh hdr hf c35
      have HS := hide1 hstep
      clear hstep
      go_wp2_with fail
      refine (a_rowEnd s hs a (by omega) _).mono ?_
      rintro e w' ⟨rfl, rfl⟩
      rw [<- HR.out]
      clear HR
      obtain ⟨E, hE⟩ := zn1 (a + r)
      rw [<- hE]
      have HE := hide1 hE
      have hE1 : E <= s.size := by omega
      by_cases hr0 : 0 < r
      . have hE2 : a < E := by omega
        clear hE
        have hv : Hid (T = (p ++ [(s.data.toList.drop a).take r]) ++ Byt.tok (s.size - E) (s.data.toList.drop E)) := by
         show T = _
         rw [HE.out, HS.out, if_pos hr0, List.drop_drop, tok_more (s.size - a - 1) (s.size - (a + r)) _ (by simp; omega) (by simp)]
         simp
        clear HS hre hr0
        obtain ⟨X, hX⟩ := zn1 (s.extract a E)
        have hsl : ∀ w, (Instr.slice 9 (.string s) (some (.int .i64 (a : Int))) (some (.int .i64 (E : Int))) none).run prog w = .ok (.string X) w := by
         intro w; rw [hX]; exact slice_mid s a E (by omega) hE1 w
        have HX := hide1 hX
        clear hX
        go_wp2_with (at_builtin; refine wpList_append_own _ rfl (.tmp 34) (.tmp 39) 162 rfl w.heap.size 9 i0 (.string ⟨#[]⟩) 1 16 Tryz.underlying162 hi hz0 hz1 hz2 rfl (by decide) _ _ _ rfl (hown.alloc _) ⟨w'.heap.size, 0, none⟩ 1 1 [.string X] rfl rfl ?c1 ?c2 ?c3 ?c4 ?c5 ?_)
        case c1 =>
         exact zq197
        case c2 => exact zq198
        case c3 => unfold maxLen; omega
        case c4 => omega
        case c5 => simp; omega
        intro v' w1 hown' hgrow hnil
        have hnn' : v' ≠ .slice none 0 0 := fun h => hnil h
        clear hnil
        have hrow2 : Below w.heap.size w w1 := (hb.alloc hbs _).grown hgrow (by simp; omega) hrow
        clear hown hgrow
        rw [HX.out, ext_str, show E - a = r by have := HE.out; omega] at hown'
        go_wp2
        go_roundw
        case rel => exact ⟨E, p ++ [(s.data.toList.drop a).take r], by omega, by simp; omega, by go_num, hnn', by simpa using hown', hrow2, hv⟩
        case measure => exact zq186
      . obtain rfl : r = 0 := by omega
        have hEa : E = a := by omega
        rw [hEa]
        clear hE HE hE1 hEa
        rw [if_neg (by omega)] at HS
        cases hbl : Byt.blank s[a]
        . rw [hbl, if_neg (by decide)] at HS
          have hv : Hid (T = (p ++ [[s[a]]]) ++ Byt.tok (s.size - (a + 1)) (s.data.toList.drop (a + 1))) := by
           show T = _
           rw [HS.out, show s.size - (a + 1) = s.size - a - 1 by omega]; simp
          clear HS
          have h1 : (s.data.toList.drop a).take 1 = [s[a]] := by rw [dropb s a hlt]; rfl
          have H1 := hide1 h1
          clear h1
          obtain ⟨X, hX⟩ := zn1 (s.extract a (a + 1))
          have hsl : ∀ w, (Instr.slice 9 (.string s) (some (.int .i64 (a : Int))) (some (.int .i64 ((a : Int) + 1))) none).run prog w = .ok (.string X) w := by
           intro w; rw [hX]; exact slice_mid s a (a + 1) (by omega) (by omega) w
          have HX := hide1 hX
          clear hX
          go_wp2_with (first | (go_at_call 219; refine (a_isBlank _ _).mono ?_; rintro e w2 ⟨rfl, rfl⟩) | (at_builtin; refine wpList_append_own _ rfl (.tmp 20) (.tmp 26) 162 rfl w.heap.size 9 i0 (.string ⟨#[]⟩) 1 16 Tryz.underlying162 hi hz0 hz1 hz2 rfl (by decide) _ _ _ rfl (hown.alloc _) ⟨_, 0, none⟩ 1 1 [.string X] rfl rfl ?c1 ?c2 ?c3 ?c4 ?c5 ?_))
          case c1 =>
           exact zq197
          case c2 => exact zq198
          case c3 => unfold maxLen; omega
          case c4 => omega
          case c5 => simp; omega
          intro v' w1 hown' hgrow hnil
          have hnn' : v' ≠ .slice none 0 0 := fun h => hnil h
          clear hnil
          have hrow2 : Below w.heap.size w w1 := (hb.alloc hbs _).grown hgrow (by simp; omega) hrow
          clear hown hgrow
          rw [HX.out, ext_str, show a + 1 - a = 1 by omega, H1.out] at hown'
          go_wp2
          go_roundw
          case rel => exact ⟨a + 1, p ++ [[s[a]]], by omega, by simp; omega, by go_num, hnn', by simpa using hown', hrow2, hv⟩
          case measure => exact zq186
        . rw [hbl, if_pos rfl] at HS
          have hv : Hid (T = p ++ Byt.tok (s.size - (a + 1)) (s.data.toList.drop (a + 1))) := by
           show T = _
           rw [HS.out, show s.size - (a + 1) = s.size - a - 1 by omega]
          clear HS
          go_wp2_with (go_at_call 219; refine (a_isBlank _ _).mono ?_; rintro e w2 ⟨rfl, rfl⟩)
          go_roundw
          case rel => exact ⟨a + 1, p, by omega, by omega, by go_num, hnn, hown, hb, hv⟩
          case measure => exact zq186
  . have hlt' : decide ((a : Int) < (s.size : Int)) = false := by simp; omega
    have hT : Hid (T = p) := (by rw [hh.out, show s.size - a = 0 by omega]; simp [Byt.tok] : T = p)
    clear hh
    go_wp2
    go_ret
    exact ⟨_, rfl, hnn, by rw [hT.out]; exact hown, hb⟩
namespace Nm
def nameLast (op : Int) : ByteArray :=
 bif op == 55 then ⟨#[97, 109, 111, 97, 110, 100, 46, 119]⟩ else
 bif op == 56 then ⟨#[97, 109, 111, 111, 114, 46, 119]⟩ else
 bif op == 57 then ⟨#[97, 109, 111, 109, 105, 110, 46, 119]⟩ else
 bif op == 58 then ⟨#[97, 109, 111, 109, 97, 120, 46, 119]⟩ else
 bif op == 59 then ⟨#[97, 109, 111, 109, 105, 110, 117, 46, 119]⟩ else
 bif op == 60 then ⟨#[97, 109, 111, 109, 97, 120, 117, 46, 119]⟩ else
 bif op == 61 then ⟨#[99, 115, 114, 114, 119]⟩ else
 bif op == 62 then ⟨#[99, 115, 114, 114, 115]⟩ else
 bif op == 63 then ⟨#[99, 115, 114, 114, 99]⟩ else
 bif op == 64 then ⟨#[99, 115, 114, 114, 119, 105]⟩ else
 bif op == 65 then ⟨#[99, 115, 114, 114, 115, 105]⟩ else
 bif op == 66 then ⟨#[99, 115, 114, 114, 99, 105]⟩ else
 bif op == 67 then ⟨#[109, 114, 101, 116]⟩ else
 bif op == 68 then ⟨#[115, 114, 101, 116]⟩ else
 bif op == 69 then ⟨#[119, 102, 105]⟩ else
 bif op == 70 then ⟨#[115, 102, 101, 110, 99, 101, 46, 118, 109, 97]⟩ else
 bif op == 71 then ⟨#[46, 119, 111, 114, 100]⟩ else
 bif op == 72 then ⟨#[46, 104, 97, 108, 102]⟩ else
 ⟨#[]⟩
def nameFourth (op : Int) : ByteArray :=
 bif op == 37 then ⟨#[97, 110, 100]⟩ else
 bif op == 38 then ⟨#[102, 101, 110, 99, 101]⟩ else
 bif op == 39 then ⟨#[102, 101, 110, 99, 101, 46, 105]⟩ else
 bif op == 40 then ⟨#[101, 99, 97, 108, 108]⟩ else
 bif op == 41 then ⟨#[101, 98, 114, 101, 97, 107]⟩ else
 bif op == 42 then ⟨#[109, 117, 108]⟩ else
 bif op == 43 then ⟨#[109, 117, 108, 104]⟩ else
 bif op == 44 then ⟨#[109, 117, 108, 104, 115, 117]⟩ else
 bif op == 45 then ⟨#[109, 117, 108, 104, 117]⟩ else
 bif op == 46 then ⟨#[100, 105, 118]⟩ else
 bif op == 47 then ⟨#[100, 105, 118, 117]⟩ else
 bif op == 48 then ⟨#[114, 101, 109]⟩ else
 bif op == 49 then ⟨#[114, 101, 109, 117]⟩ else
 bif op == 50 then ⟨#[108, 114, 46, 119]⟩ else
 bif op == 51 then ⟨#[115, 99, 46, 119]⟩ else
 bif op == 52 then ⟨#[97, 109, 111, 115, 119, 97, 112, 46, 119]⟩ else
 bif op == 53 then ⟨#[97, 109, 111, 97, 100, 100, 46, 119]⟩ else
 bif op == 54 then ⟨#[97, 109, 111, 120, 111, 114, 46, 119]⟩ else
 nameLast op
def nameThird (op : Int) : ByteArray :=
 bif op == 28 then ⟨#[97, 100, 100]⟩ else
 bif op == 29 then ⟨#[115, 117, 98]⟩ else
 bif op == 30 then ⟨#[115, 108, 108]⟩ else
 bif op == 31 then ⟨#[115, 108, 116]⟩ else
 bif op == 32 then ⟨#[115, 108, 116, 117]⟩ else
 bif op == 33 then ⟨#[120, 111, 114]⟩ else
 bif op == 34 then ⟨#[115, 114, 108]⟩ else
 bif op == 35 then ⟨#[115, 114, 97]⟩ else
 bif op == 36 then ⟨#[111, 114]⟩ else
 nameFourth op
def nameSecond (op : Int) : ByteArray :=
 bif op == 19 then ⟨#[97, 100, 100, 105]⟩ else
 bif op == 20 then ⟨#[115, 108, 116, 105]⟩ else
 bif op == 21 then ⟨#[115, 108, 116, 105, 117]⟩ else
 bif op == 22 then ⟨#[120, 111, 114, 105]⟩ else
 bif op == 23 then ⟨#[111, 114, 105]⟩ else
 bif op == 24 then ⟨#[97, 110, 100, 105]⟩ else
 bif op == 25 then ⟨#[115, 108, 108, 105]⟩ else
 bif op == 26 then ⟨#[115, 114, 108, 105]⟩ else
 bif op == 27 then ⟨#[115, 114, 97, 105]⟩ else
 nameThird op
def name (op : Int) : ByteArray :=
 bif op == 1 then ⟨#[108, 117, 105]⟩ else
 bif op == 2 then ⟨#[97, 117, 105, 112, 99]⟩ else
 bif op == 3 then ⟨#[106, 97, 108]⟩ else
 bif op == 4 then ⟨#[106, 97, 108, 114]⟩ else
 bif op == 5 then ⟨#[98, 101, 113]⟩ else
 bif op == 6 then ⟨#[98, 110, 101]⟩ else
 bif op == 7 then ⟨#[98, 108, 116]⟩ else
 bif op == 8 then ⟨#[98, 103, 101]⟩ else
 bif op == 9 then ⟨#[98, 108, 116, 117]⟩ else
 bif op == 10 then ⟨#[98, 103, 101, 117]⟩ else
 bif op == 11 then ⟨#[108, 98]⟩ else
 bif op == 12 then ⟨#[108, 104]⟩ else
 bif op == 13 then ⟨#[108, 119]⟩ else
 bif op == 14 then ⟨#[108, 98, 117]⟩ else
 bif op == 15 then ⟨#[108, 104, 117]⟩ else
 bif op == 16 then ⟨#[115, 98]⟩ else
 bif op == 17 then ⟨#[115, 104]⟩ else
 bif op == 18 then ⟨#[115, 119]⟩ else
 nameSecond op
def shape (op : Int) : ByteArray :=
 bif op == 1 || op == 2 then ⟨#[100, 105]⟩ else
 bif op == 3 then ⟨#[100, 106]⟩ else
 bif op == 4 then ⟨#[100, 109]⟩ else
 bif decide (5 <= op) && decide (op <= 10) then ⟨#[115, 116, 106]⟩ else
 bif decide (11 <= op) && decide (op <= 15) then ⟨#[100, 109]⟩ else
 bif decide (16 <= op) && decide (op <= 18) then ⟨#[116, 109]⟩ else
 bif (decide (19 <= op) && decide (op <= 27)) || op == 38 || op == 39 || op == 50 then ⟨#[100, 115, 105]⟩ else
 bif (decide (28 <= op) && decide (op <= 37)) || (decide (42 <= op) && decide (op <= 49)) then ⟨#[100, 115, 116]⟩ else
 bif decide (51 <= op) && decide (op <= 60) then ⟨#[100, 116, 115, 105]⟩ else
 bif decide (61 <= op) && decide (op <= 63) then ⟨#[100, 105, 115]⟩ else
 bif decide (64 <= op) && decide (op <= 66) then ⟨#[100, 105, 117]⟩ else
 bif op == 70 then ⟨#[115, 116]⟩ else
 bif op == 71 || op == 72 then ⟨#[105]⟩ else ⟨#[]⟩
end Nm
end Go.Proofs.YtmlgonbhoknoiabGreatDoor
