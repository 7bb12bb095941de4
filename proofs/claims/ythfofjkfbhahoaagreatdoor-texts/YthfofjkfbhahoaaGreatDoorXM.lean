import Derived.Test.YthfofjkfbhahoaaGreatDoorProg
import Derived.WalkKit
import Derived.ProofKit
import Derived.OpenShut
import Derived.WalkLawsBesides
import Derived.Deep.Light
import Derived.Lib.IndexBytes
import Derived.Lib.Strings
section
namespace Go.Proofs.YthfofjkfbhahoaaGreatDoor
open Go.RowKit
set_option linter.unusedSimpArgs false
namespace Byt
def dig (c : UInt8) : Bool := decide (48 ≤ c.toNat) && decide (c.toNat ≤ 57)
def letr (c : UInt8) : Bool := (decide (97 ≤ c.toNat) && decide (c.toNat ≤ 122)) || (decide (65 ≤ c.toNat) && decide (c.toNat ≤ 90)) || decide (c.toNat = 95) || decide (c.toNat = 46)
def nmc (c : UInt8) : Bool := letr c || dig c
def inn (c : UInt8) : Bool := nmc c || decide (c.toNat = 45)
def blank (c : UInt8) : Bool := decide (c.toNat = 32) || decide (c.toNat = 9)
/-- a digit's value; 16: it is none -/
def hexv (c : UInt8) : Nat := if 48 ≤ c.toNat ∧ c.toNat ≤ 57 then c.toNat - 48 else if 97 ≤ c.toNat ∧ c.toNat ≤ 102 then c.toNat - 87 else if 65 ≤ c.toNat ∧ c.toNat ≤ 70 then c.toNat - 55 else 16
end Byt
theorem u8_bd (c : UInt8) : c.toNat ≤ 255 := by have := c.toNat_lt; omega
set_option maxHeartbeats 1000000 in
theorem a_isDigit (c : UInt8) (w : World) :
    Calls Tryz.prog 238 #[.int .u8 (c.toNat : Int)] w fun e w' => e = .returned (.bool (Byt.dig c)) ∧ w' = w := by
  have hbd := u8_bd c
  by_cases k0 : c.toNat ≤ 47
  · have l0 : 0 ≤ c.toNat := by omega
    have vv : Byt.dig c = false := by simp [Byt.dig]; omega
    rw [vv]
    skip
    go_enter Tryz.func238, Tryz.ntmps238
    go_wp2
    go_ret
    exact ⟨by first | rfl | (refine congrArg (fun b => Ending.returned (Value.bool b)) ?_; simp; omega), rfl⟩
  by_cases k1 : c.toNat ≤ 57
  · have l0 : 48 ≤ c.toNat := by omega
    have vv : Byt.dig c = true := by simp [Byt.dig]; omega
    rw [vv]
    clear k0
    go_enter Tryz.func238, Tryz.ntmps238
    go_wp2
    go_ret
    exact ⟨by first | rfl | (refine congrArg (fun b => Ending.returned (Value.bool b)) ?_; simp; omega), rfl⟩
  have l0 : 58 ≤ c.toNat := by omega
  have vv : Byt.dig c = false := by simp [Byt.dig]; omega
  rw [vv]
  clear k0 k1
  go_enter Tryz.func238, Tryz.ntmps238
  go_wp2
  go_ret
  exact ⟨by first | rfl | (refine congrArg (fun b => Ending.returned (Value.bool b)) ?_; simp; omega), rfl⟩
set_option maxHeartbeats 1000000 in
theorem a_isBlank (c : UInt8) (w : World) :
    Calls Tryz.prog 194 #[.int .u8 (c.toNat : Int)] w fun e w' => e = .returned (.bool (Byt.blank c)) ∧ w' = w := by
  have hbd := u8_bd c
  by_cases k0 : c.toNat ≤ 8
  · have l0 : 0 ≤ c.toNat := by omega
    have vv : Byt.blank c = false := by simp [Byt.blank]; omega
    rw [vv]
    skip
    go_enter Tryz.func194, Tryz.ntmps194
    go_wp2
    go_ret
    exact ⟨by first | rfl | (refine congrArg (fun b => Ending.returned (Value.bool b)) ?_; simp; omega), rfl⟩
  by_cases k1 : c.toNat ≤ 9
  · have l0 : 9 ≤ c.toNat := by omega
    have vv : Byt.blank c = true := by simp [Byt.blank]; omega
    rw [vv]
    clear k0
    go_enter Tryz.func194, Tryz.ntmps194
    go_wp2
    go_ret
    exact ⟨by first | rfl | (refine congrArg (fun b => Ending.returned (Value.bool b)) ?_; simp; omega), rfl⟩
  by_cases k2 : c.toNat ≤ 31
  · have l0 : 10 ≤ c.toNat := by omega
    have vv : Byt.blank c = false := by simp [Byt.blank]; omega
    rw [vv]
    clear k0 k1
    go_enter Tryz.func194, Tryz.ntmps194
    go_wp2
    go_ret
    exact ⟨by first | rfl | (refine congrArg (fun b => Ending.returned (Value.bool b)) ?_; simp; omega), rfl⟩
  by_cases k3 : c.toNat ≤ 32
  · have l0 : 32 ≤ c.toNat := by omega
    have vv : Byt.blank c = true := by simp [Byt.blank]; omega
    rw [vv]
    clear k0 k1 k2
    go_enter Tryz.func194, Tryz.ntmps194
    go_wp2
    go_ret
    exact ⟨by first | rfl | (refine congrArg (fun b => Ending.returned (Value.bool b)) ?_; simp; omega), rfl⟩
  have l0 : 33 ≤ c.toNat := by omega
  have vv : Byt.blank c = false := by simp [Byt.blank]; omega
  rw [vv]
  clear k0 k1 k2 k3
  go_enter Tryz.func194, Tryz.ntmps194
  go_wp2
  go_ret
  exact ⟨by first | rfl | (refine congrArg (fun b => Ending.returned (Value.bool b)) ?_; simp; omega), rfl⟩
set_option maxHeartbeats 1000000 in
theorem a_isNameByte (c : UInt8) (w : World) :
    Calls Tryz.prog 237 #[.int .u8 (c.toNat : Int)] w fun e w' => e = .returned (.bool (Byt.nmc c)) ∧ w' = w := by
  have hbd := u8_bd c
  by_cases k0 : c.toNat ≤ 45
  · have l0 : 0 ≤ c.toNat := by omega
    have v_a_isDigit : Byt.dig c = false := by simp [Byt.dig]; omega
    have vv : Byt.nmc c = false := by simp [Byt.nmc, Byt.letr, Byt.dig]; omega
    rw [vv]
    skip
    go_enter Tryz.func237, Tryz.ntmps237
    go_wp2_with (first | (go_at_call 238; refine (a_isDigit _ _).mono ?_; rintro e w' ⟨rfl, rfl⟩))
    go_ret
    exact ⟨by first | rfl | (refine congrArg (fun b => Ending.returned (Value.bool b)) ?_; simp; omega), rfl⟩
  by_cases k1 : c.toNat ≤ 46
  · have l0 : 46 ≤ c.toNat := by omega
    have v_a_isDigit : Byt.dig c = false := by simp [Byt.dig]; omega
    have vv : Byt.nmc c = true := by simp [Byt.nmc, Byt.letr, Byt.dig]; omega
    rw [vv]
    clear k0
    go_enter Tryz.func237, Tryz.ntmps237
    go_wp2_with (first | (go_at_call 238; refine (a_isDigit _ _).mono ?_; rintro e w' ⟨rfl, rfl⟩))
    go_ret
    exact ⟨by first | rfl | (refine congrArg (fun b => Ending.returned (Value.bool b)) ?_; simp; omega), rfl⟩
  by_cases k2 : c.toNat ≤ 47
  · have l0 : 47 ≤ c.toNat := by omega
    have v_a_isDigit : Byt.dig c = false := by simp [Byt.dig]; omega
    have vv : Byt.nmc c = false := by simp [Byt.nmc, Byt.letr, Byt.dig]; omega
    rw [vv]
    clear k0 k1
    go_enter Tryz.func237, Tryz.ntmps237
    go_wp2_with (first | (go_at_call 238; refine (a_isDigit _ _).mono ?_; rintro e w' ⟨rfl, rfl⟩))
    go_ret
    exact ⟨by first | rfl | (refine congrArg (fun b => Ending.returned (Value.bool b)) ?_; simp; omega), rfl⟩
  by_cases k3 : c.toNat ≤ 57
  · have l0 : 48 ≤ c.toNat := by omega
    have v_a_isDigit : Byt.dig c = true := by simp [Byt.dig]; omega
    have vv : Byt.nmc c = true := by simp [Byt.nmc, Byt.letr, Byt.dig]; omega
    rw [vv]
    clear k0 k1 k2
    go_enter Tryz.func237, Tryz.ntmps237
    go_wp2_with (first | (go_at_call 238; refine (a_isDigit _ _).mono ?_; rintro e w' ⟨rfl, rfl⟩))
    go_ret
    exact ⟨by first | rfl | (refine congrArg (fun b => Ending.returned (Value.bool b)) ?_; simp; omega), rfl⟩
  by_cases k4 : c.toNat ≤ 64
  · have l0 : 58 ≤ c.toNat := by omega
    have v_a_isDigit : Byt.dig c = false := by simp [Byt.dig]; omega
    have vv : Byt.nmc c = false := by simp [Byt.nmc, Byt.letr, Byt.dig]; omega
    rw [vv]
    clear k0 k1 k2 k3
    go_enter Tryz.func237, Tryz.ntmps237
    go_wp2_with (first | (go_at_call 238; refine (a_isDigit _ _).mono ?_; rintro e w' ⟨rfl, rfl⟩))
    go_ret
    exact ⟨by first | rfl | (refine congrArg (fun b => Ending.returned (Value.bool b)) ?_; simp; omega), rfl⟩
  by_cases k5 : c.toNat ≤ 90
  · have l0 : 65 ≤ c.toNat := by omega
    have v_a_isDigit : Byt.dig c = false := by simp [Byt.dig]; omega
    have vv : Byt.nmc c = true := by simp [Byt.nmc, Byt.letr, Byt.dig]; omega
    rw [vv]
    clear k0 k1 k2 k3 k4
    go_enter Tryz.func237, Tryz.ntmps237
    go_wp2_with (first | (go_at_call 238; refine (a_isDigit _ _).mono ?_; rintro e w' ⟨rfl, rfl⟩))
    go_ret
    exact ⟨by first | rfl | (refine congrArg (fun b => Ending.returned (Value.bool b)) ?_; simp; omega), rfl⟩
  by_cases k6 : c.toNat ≤ 94
  · have l0 : 91 ≤ c.toNat := by omega
    have v_a_isDigit : Byt.dig c = false := by simp [Byt.dig]; omega
    have vv : Byt.nmc c = false := by simp [Byt.nmc, Byt.letr, Byt.dig]; omega
    rw [vv]
    clear k0 k1 k2 k3 k4 k5
    go_enter Tryz.func237, Tryz.ntmps237
    go_wp2_with (first | (go_at_call 238; refine (a_isDigit _ _).mono ?_; rintro e w' ⟨rfl, rfl⟩))
    go_ret
    exact ⟨by first | rfl | (refine congrArg (fun b => Ending.returned (Value.bool b)) ?_; simp; omega), rfl⟩
  by_cases k7 : c.toNat ≤ 95
  · have l0 : 95 ≤ c.toNat := by omega
    have v_a_isDigit : Byt.dig c = false := by simp [Byt.dig]; omega
    have vv : Byt.nmc c = true := by simp [Byt.nmc, Byt.letr, Byt.dig]; omega
    rw [vv]
    clear k0 k1 k2 k3 k4 k5 k6
    go_enter Tryz.func237, Tryz.ntmps237
    go_wp2_with (first | (go_at_call 238; refine (a_isDigit _ _).mono ?_; rintro e w' ⟨rfl, rfl⟩))
    go_ret
    exact ⟨by first | rfl | (refine congrArg (fun b => Ending.returned (Value.bool b)) ?_; simp; omega), rfl⟩
  by_cases k8 : c.toNat ≤ 96
  · have l0 : 96 ≤ c.toNat := by omega
    have v_a_isDigit : Byt.dig c = false := by simp [Byt.dig]; omega
    have vv : Byt.nmc c = false := by simp [Byt.nmc, Byt.letr, Byt.dig]; omega
    rw [vv]
    clear k0 k1 k2 k3 k4 k5 k6 k7
    go_enter Tryz.func237, Tryz.ntmps237
    go_wp2_with (first | (go_at_call 238; refine (a_isDigit _ _).mono ?_; rintro e w' ⟨rfl, rfl⟩))
    go_ret
    exact ⟨by first | rfl | (refine congrArg (fun b => Ending.returned (Value.bool b)) ?_; simp; omega), rfl⟩
  by_cases k9 : c.toNat ≤ 122
  · have l0 : 97 ≤ c.toNat := by omega
    have v_a_isDigit : Byt.dig c = false := by simp [Byt.dig]; omega
    have vv : Byt.nmc c = true := by simp [Byt.nmc, Byt.letr, Byt.dig]; omega
    rw [vv]
    clear k0 k1 k2 k3 k4 k5 k6 k7 k8
    go_enter Tryz.func237, Tryz.ntmps237
    go_wp2_with (first | (go_at_call 238; refine (a_isDigit _ _).mono ?_; rintro e w' ⟨rfl, rfl⟩))
    go_ret
    exact ⟨by first | rfl | (refine congrArg (fun b => Ending.returned (Value.bool b)) ?_; simp; omega), rfl⟩
  have l0 : 123 ≤ c.toNat := by omega
  have v_a_isDigit : Byt.dig c = false := by simp [Byt.dig]; omega
  have vv : Byt.nmc c = false := by simp [Byt.nmc, Byt.letr, Byt.dig]; omega
  rw [vv]
  clear k0 k1 k2 k3 k4 k5 k6 k7 k8 k9
  go_enter Tryz.func237, Tryz.ntmps237
  go_wp2_with (first | (go_at_call 238; refine (a_isDigit _ _).mono ?_; rintro e w' ⟨rfl, rfl⟩))
  go_ret
  exact ⟨by first | rfl | (refine congrArg (fun b => Ending.returned (Value.bool b)) ?_; simp; omega), rfl⟩
set_option maxHeartbeats 1000000 in
theorem u_digit (c : UInt8) (w : World) :
    Calls Tryz.prog 245 #[.int .u8 (c.toNat : Int)] w fun e w' => e = .returned (.bool (Byt.dig c)) ∧ w' = w := by
  have hbd := u8_bd c
  by_cases k0 : c.toNat ≤ 47
  · have l0 : 0 ≤ c.toNat := by omega
    have vv : Byt.dig c = false := by simp [Byt.dig]; omega
    rw [vv]
    skip
    go_enter Tryz.func245, Tryz.ntmps245
    go_wp2
    go_ret
    exact ⟨by first | rfl | (refine congrArg (fun b => Ending.returned (Value.bool b)) ?_; simp; omega), rfl⟩
  by_cases k1 : c.toNat ≤ 57
  · have l0 : 48 ≤ c.toNat := by omega
    have vv : Byt.dig c = true := by simp [Byt.dig]; omega
    rw [vv]
    clear k0
    go_enter Tryz.func245, Tryz.ntmps245
    go_wp2
    go_ret
    exact ⟨by first | rfl | (refine congrArg (fun b => Ending.returned (Value.bool b)) ?_; simp; omega), rfl⟩
  have l0 : 58 ≤ c.toNat := by omega
  have vv : Byt.dig c = false := by simp [Byt.dig]; omega
  rw [vv]
  clear k0 k1
  go_enter Tryz.func245, Tryz.ntmps245
  go_wp2
  go_ret
  exact ⟨by first | rfl | (refine congrArg (fun b => Ending.returned (Value.bool b)) ?_; simp; omega), rfl⟩
set_option maxHeartbeats 1000000 in
theorem u_letter (c : UInt8) (w : World) :
    Calls Tryz.prog 223 #[.int .u8 (c.toNat : Int)] w fun e w' => e = .returned (.bool (Byt.letr c)) ∧ w' = w := by
  have hbd := u8_bd c
  by_cases k0 : c.toNat ≤ 45
  · have l0 : 0 ≤ c.toNat := by omega
    have vv : Byt.letr c = false := by simp [Byt.letr]; omega
    rw [vv]
    skip
    go_enter Tryz.func223, Tryz.ntmps223
    go_wp2
    go_ret
    exact ⟨by first | rfl | (refine congrArg (fun b => Ending.returned (Value.bool b)) ?_; simp; omega), rfl⟩
  by_cases k1 : c.toNat ≤ 46
  · have l0 : 46 ≤ c.toNat := by omega
    have vv : Byt.letr c = true := by simp [Byt.letr]; omega
    rw [vv]
    clear k0
    go_enter Tryz.func223, Tryz.ntmps223
    go_wp2
    go_ret
    exact ⟨by first | rfl | (refine congrArg (fun b => Ending.returned (Value.bool b)) ?_; simp; omega), rfl⟩
  by_cases k2 : c.toNat ≤ 64
  · have l0 : 47 ≤ c.toNat := by omega
    have vv : Byt.letr c = false := by simp [Byt.letr]; omega
    rw [vv]
    clear k0 k1
    go_enter Tryz.func223, Tryz.ntmps223
    go_wp2
    go_ret
    exact ⟨by first | rfl | (refine congrArg (fun b => Ending.returned (Value.bool b)) ?_; simp; omega), rfl⟩
  by_cases k3 : c.toNat ≤ 90
  · have l0 : 65 ≤ c.toNat := by omega
    have vv : Byt.letr c = true := by simp [Byt.letr]; omega
    rw [vv]
    clear k0 k1 k2
    go_enter Tryz.func223, Tryz.ntmps223
    go_wp2
    go_ret
    exact ⟨by first | rfl | (refine congrArg (fun b => Ending.returned (Value.bool b)) ?_; simp; omega), rfl⟩
  by_cases k4 : c.toNat ≤ 94
  · have l0 : 91 ≤ c.toNat := by omega
    have vv : Byt.letr c = false := by simp [Byt.letr]; omega
    rw [vv]
    clear k0 k1 k2 k3
    go_enter Tryz.func223, Tryz.ntmps223
    go_wp2
    go_ret
    exact ⟨by first | rfl | (refine congrArg (fun b => Ending.returned (Value.bool b)) ?_; simp; omega), rfl⟩
  by_cases k5 : c.toNat ≤ 95
  · have l0 : 95 ≤ c.toNat := by omega
    have vv : Byt.letr c = true := by simp [Byt.letr]; omega
    rw [vv]
    clear k0 k1 k2 k3 k4
    go_enter Tryz.func223, Tryz.ntmps223
    go_wp2
    go_ret
    exact ⟨by first | rfl | (refine congrArg (fun b => Ending.returned (Value.bool b)) ?_; simp; omega), rfl⟩
  by_cases k6 : c.toNat ≤ 96
  · have l0 : 96 ≤ c.toNat := by omega
    have vv : Byt.letr c = false := by simp [Byt.letr]; omega
    rw [vv]
    clear k0 k1 k2 k3 k4 k5
    go_enter Tryz.func223, Tryz.ntmps223
    go_wp2
    go_ret
    exact ⟨by first | rfl | (refine congrArg (fun b => Ending.returned (Value.bool b)) ?_; simp; omega), rfl⟩
  by_cases k7 : c.toNat ≤ 122
  · have l0 : 97 ≤ c.toNat := by omega
    have vv : Byt.letr c = true := by simp [Byt.letr]; omega
    rw [vv]
    clear k0 k1 k2 k3 k4 k5 k6
    go_enter Tryz.func223, Tryz.ntmps223
    go_wp2
    go_ret
    exact ⟨by first | rfl | (refine congrArg (fun b => Ending.returned (Value.bool b)) ?_; simp; omega), rfl⟩
  have l0 : 123 ≤ c.toNat := by omega
  have vv : Byt.letr c = false := by simp [Byt.letr]; omega
  rw [vv]
  clear k0 k1 k2 k3 k4 k5 k6 k7
  go_enter Tryz.func223, Tryz.ntmps223
  go_wp2
  go_ret
  exact ⟨by first | rfl | (refine congrArg (fun b => Ending.returned (Value.bool b)) ?_; simp; omega), rfl⟩
set_option maxHeartbeats 1000000 in
theorem u_inner (c : UInt8) (w : World) :
    Calls Tryz.prog 222 #[.int .u8 (c.toNat : Int)] w fun e w' => e = .returned (.bool (Byt.inn c)) ∧ w' = w := by
  have hbd := u8_bd c
  by_cases k0 : c.toNat ≤ 44
  · have l0 : 0 ≤ c.toNat := by omega
    have v_u_letter : Byt.letr c = false := by simp [Byt.letr]; omega
    have v_u_digit : Byt.dig c = false := by simp [Byt.dig]; omega
    have vv : Byt.inn c = false := by simp [Byt.inn, Byt.nmc, Byt.letr, Byt.dig]; omega
    rw [vv]
    skip
    go_enter Tryz.func222, Tryz.ntmps222
    go_wp2_with (first | (go_at_call 223; refine (u_letter _ _).mono ?_; rintro e w' ⟨rfl, rfl⟩) | (go_at_call 245; refine (u_digit _ _).mono ?_; rintro e w' ⟨rfl, rfl⟩))
    go_ret
    exact ⟨by first | rfl | (refine congrArg (fun b => Ending.returned (Value.bool b)) ?_; simp; omega), rfl⟩
  by_cases k1 : c.toNat ≤ 45
  · have l0 : 45 ≤ c.toNat := by omega
    have v_u_letter : Byt.letr c = false := by simp [Byt.letr]; omega
    have v_u_digit : Byt.dig c = false := by simp [Byt.dig]; omega
    have vv : Byt.inn c = true := by simp [Byt.inn, Byt.nmc, Byt.letr, Byt.dig]; omega
    rw [vv]
    clear k0
    go_enter Tryz.func222, Tryz.ntmps222
    go_wp2_with (first | (go_at_call 223; refine (u_letter _ _).mono ?_; rintro e w' ⟨rfl, rfl⟩) | (go_at_call 245; refine (u_digit _ _).mono ?_; rintro e w' ⟨rfl, rfl⟩))
    go_ret
    exact ⟨by first | rfl | (refine congrArg (fun b => Ending.returned (Value.bool b)) ?_; simp; omega), rfl⟩
  by_cases k2 : c.toNat ≤ 46
  · have l0 : 46 ≤ c.toNat := by omega
    have v_u_letter : Byt.letr c = true := by simp [Byt.letr]; omega
    have v_u_digit : Byt.dig c = false := by simp [Byt.dig]; omega
    have vv : Byt.inn c = true := by simp [Byt.inn, Byt.nmc, Byt.letr, Byt.dig]; omega
    rw [vv]
    clear k0 k1
    go_enter Tryz.func222, Tryz.ntmps222
    go_wp2_with (first | (go_at_call 223; refine (u_letter _ _).mono ?_; rintro e w' ⟨rfl, rfl⟩) | (go_at_call 245; refine (u_digit _ _).mono ?_; rintro e w' ⟨rfl, rfl⟩))
    go_ret
    exact ⟨by first | rfl | (refine congrArg (fun b => Ending.returned (Value.bool b)) ?_; simp; omega), rfl⟩
  by_cases k3 : c.toNat ≤ 47
  · have l0 : 47 ≤ c.toNat := by omega
    have v_u_letter : Byt.letr c = false := by simp [Byt.letr]; omega
    have v_u_digit : Byt.dig c = false := by simp [Byt.dig]; omega
    have vv : Byt.inn c = false := by simp [Byt.inn, Byt.nmc, Byt.letr, Byt.dig]; omega
    rw [vv]
    clear k0 k1 k2
    go_enter Tryz.func222, Tryz.ntmps222
    go_wp2_with (first | (go_at_call 223; refine (u_letter _ _).mono ?_; rintro e w' ⟨rfl, rfl⟩) | (go_at_call 245; refine (u_digit _ _).mono ?_; rintro e w' ⟨rfl, rfl⟩))
    go_ret
    exact ⟨by first | rfl | (refine congrArg (fun b => Ending.returned (Value.bool b)) ?_; simp; omega), rfl⟩
  by_cases k4 : c.toNat ≤ 57
  · have l0 : 48 ≤ c.toNat := by omega
    have v_u_letter : Byt.letr c = false := by simp [Byt.letr]; omega
    have v_u_digit : Byt.dig c = true := by simp [Byt.dig]; omega
    have vv : Byt.inn c = true := by simp [Byt.inn, Byt.nmc, Byt.letr, Byt.dig]; omega
    rw [vv]
    clear k0 k1 k2 k3
    go_enter Tryz.func222, Tryz.ntmps222
    go_wp2_with (first | (go_at_call 223; refine (u_letter _ _).mono ?_; rintro e w' ⟨rfl, rfl⟩) | (go_at_call 245; refine (u_digit _ _).mono ?_; rintro e w' ⟨rfl, rfl⟩))
    go_ret
    exact ⟨by first | rfl | (refine congrArg (fun b => Ending.returned (Value.bool b)) ?_; simp; omega), rfl⟩
  by_cases k5 : c.toNat ≤ 64
  · have l0 : 58 ≤ c.toNat := by omega
    have v_u_letter : Byt.letr c = false := by simp [Byt.letr]; omega
    have v_u_digit : Byt.dig c = false := by simp [Byt.dig]; omega
    have vv : Byt.inn c = false := by simp [Byt.inn, Byt.nmc, Byt.letr, Byt.dig]; omega
    rw [vv]
    clear k0 k1 k2 k3 k4
    go_enter Tryz.func222, Tryz.ntmps222
    go_wp2_with (first | (go_at_call 223; refine (u_letter _ _).mono ?_; rintro e w' ⟨rfl, rfl⟩) | (go_at_call 245; refine (u_digit _ _).mono ?_; rintro e w' ⟨rfl, rfl⟩))
    go_ret
    exact ⟨by first | rfl | (refine congrArg (fun b => Ending.returned (Value.bool b)) ?_; simp; omega), rfl⟩
  by_cases k6 : c.toNat ≤ 90
  · have l0 : 65 ≤ c.toNat := by omega
    have v_u_letter : Byt.letr c = true := by simp [Byt.letr]; omega
    have v_u_digit : Byt.dig c = false := by simp [Byt.dig]; omega
    have vv : Byt.inn c = true := by simp [Byt.inn, Byt.nmc, Byt.letr, Byt.dig]; omega
    rw [vv]
    clear k0 k1 k2 k3 k4 k5
    go_enter Tryz.func222, Tryz.ntmps222
    go_wp2_with (first | (go_at_call 223; refine (u_letter _ _).mono ?_; rintro e w' ⟨rfl, rfl⟩) | (go_at_call 245; refine (u_digit _ _).mono ?_; rintro e w' ⟨rfl, rfl⟩))
    go_ret
    exact ⟨by first | rfl | (refine congrArg (fun b => Ending.returned (Value.bool b)) ?_; simp; omega), rfl⟩
  by_cases k7 : c.toNat ≤ 94
  · have l0 : 91 ≤ c.toNat := by omega
    have v_u_letter : Byt.letr c = false := by simp [Byt.letr]; omega
    have v_u_digit : Byt.dig c = false := by simp [Byt.dig]; omega
    have vv : Byt.inn c = false := by simp [Byt.inn, Byt.nmc, Byt.letr, Byt.dig]; omega
    rw [vv]
    clear k0 k1 k2 k3 k4 k5 k6
    go_enter Tryz.func222, Tryz.ntmps222
    go_wp2_with (first | (go_at_call 223; refine (u_letter _ _).mono ?_; rintro e w' ⟨rfl, rfl⟩) | (go_at_call 245; refine (u_digit _ _).mono ?_; rintro e w' ⟨rfl, rfl⟩))
    go_ret
    exact ⟨by first | rfl | (refine congrArg (fun b => Ending.returned (Value.bool b)) ?_; simp; omega), rfl⟩
  by_cases k8 : c.toNat ≤ 95
  · have l0 : 95 ≤ c.toNat := by omega
    have v_u_letter : Byt.letr c = true := by simp [Byt.letr]; omega
    have v_u_digit : Byt.dig c = false := by simp [Byt.dig]; omega
    have vv : Byt.inn c = true := by simp [Byt.inn, Byt.nmc, Byt.letr, Byt.dig]; omega
    rw [vv]
    clear k0 k1 k2 k3 k4 k5 k6 k7
    go_enter Tryz.func222, Tryz.ntmps222
    go_wp2_with (first | (go_at_call 223; refine (u_letter _ _).mono ?_; rintro e w' ⟨rfl, rfl⟩) | (go_at_call 245; refine (u_digit _ _).mono ?_; rintro e w' ⟨rfl, rfl⟩))
    go_ret
    exact ⟨by first | rfl | (refine congrArg (fun b => Ending.returned (Value.bool b)) ?_; simp; omega), rfl⟩
  by_cases k9 : c.toNat ≤ 96
  · have l0 : 96 ≤ c.toNat := by omega
    have v_u_letter : Byt.letr c = false := by simp [Byt.letr]; omega
    have v_u_digit : Byt.dig c = false := by simp [Byt.dig]; omega
    have vv : Byt.inn c = false := by simp [Byt.inn, Byt.nmc, Byt.letr, Byt.dig]; omega
    rw [vv]
    clear k0 k1 k2 k3 k4 k5 k6 k7 k8
    go_enter Tryz.func222, Tryz.ntmps222
    go_wp2_with (first | (go_at_call 223; refine (u_letter _ _).mono ?_; rintro e w' ⟨rfl, rfl⟩) | (go_at_call 245; refine (u_digit _ _).mono ?_; rintro e w' ⟨rfl, rfl⟩))
    go_ret
    exact ⟨by first | rfl | (refine congrArg (fun b => Ending.returned (Value.bool b)) ?_; simp; omega), rfl⟩
  by_cases k10 : c.toNat ≤ 122
  · have l0 : 97 ≤ c.toNat := by omega
    have v_u_letter : Byt.letr c = true := by simp [Byt.letr]; omega
    have v_u_digit : Byt.dig c = false := by simp [Byt.dig]; omega
    have vv : Byt.inn c = true := by simp [Byt.inn, Byt.nmc, Byt.letr, Byt.dig]; omega
    rw [vv]
    clear k0 k1 k2 k3 k4 k5 k6 k7 k8 k9
    go_enter Tryz.func222, Tryz.ntmps222
    go_wp2_with (first | (go_at_call 223; refine (u_letter _ _).mono ?_; rintro e w' ⟨rfl, rfl⟩) | (go_at_call 245; refine (u_digit _ _).mono ?_; rintro e w' ⟨rfl, rfl⟩))
    go_ret
    exact ⟨by first | rfl | (refine congrArg (fun b => Ending.returned (Value.bool b)) ?_; simp; omega), rfl⟩
  have l0 : 123 ≤ c.toNat := by omega
  have v_u_letter : Byt.letr c = false := by simp [Byt.letr]; omega
  have v_u_digit : Byt.dig c = false := by simp [Byt.dig]; omega
  have vv : Byt.inn c = false := by simp [Byt.inn, Byt.nmc, Byt.letr, Byt.dig]; omega
  rw [vv]
  clear k0 k1 k2 k3 k4 k5 k6 k7 k8 k9 k10
  go_enter Tryz.func222, Tryz.ntmps222
  go_wp2_with (first | (go_at_call 223; refine (u_letter _ _).mono ?_; rintro e w' ⟨rfl, rfl⟩) | (go_at_call 245; refine (u_digit _ _).mono ?_; rintro e w' ⟨rfl, rfl⟩))
  go_ret
  exact ⟨by first | rfl | (refine congrArg (fun b => Ending.returned (Value.bool b)) ?_; simp; omega), rfl⟩
end Go.Proofs.YthfofjkfbhahoaaGreatDoor
end
section
namespace Go.Proofs.YthfofjkfbhahoaaGreatDoor
open Go.RowKit
set_option linter.unusedSimpArgs false
theorem hide1 {p : Prop} (h : p) : Hid p := h
set_option maxHeartbeats 1000000 in
theorem a_digitValue (c : UInt8) (w : World) :
    Calls Tryz.prog 330 #[.int .u8 (c.toNat : Int)] w fun e w' => e = .returned (.int .i64 ((Byt.hexv c : Nat))) ∧ w' = w := by
  have hbd := u8_bd c
  by_cases k0 : c.toNat ≤ 47
  · have l0 : 0 ≤ c.toNat := by omega
    have vv : Byt.hexv c = 16 := by unfold Byt.hexv; rw [if_neg (by omega), if_neg (by omega), if_neg (by omega)]
    have vd : Byt.dig c = false := by simp [Byt.dig]; omega
    rw [vv]
    skip
    clear vv
    go_enter Tryz.func330, Tryz.ntmps330
    go_wp2_with (go_at_call 238; refine (a_isDigit _ _).mono ?_; rintro e w' ⟨rfl, rfl⟩)
    go_ret
    exact ⟨by first | rfl | (refine congrArg (fun z => Ending.returned (Value.int .i64 z)) ?_; omega), rfl⟩
  by_cases k1 : c.toNat ≤ 57
  · have l0 : 48 ≤ c.toNat := by omega
    have vv : Byt.hexv c = c.toNat - 48 := by unfold Byt.hexv; rw [if_pos (by omega)]
    have vd : Byt.dig c = true := by simp [Byt.dig]; omega
    rw [vv]
    clear k0
    clear vv
    go_enter Tryz.func330, Tryz.ntmps330
    go_wp2_with (go_at_call 238; refine (a_isDigit _ _).mono ?_; rintro e w' ⟨rfl, rfl⟩)
    go_ret
    exact ⟨by first | rfl | (refine congrArg (fun z => Ending.returned (Value.int .i64 z)) ?_; omega), rfl⟩
  by_cases k2 : c.toNat ≤ 64
  · have l0 : 58 ≤ c.toNat := by omega
    have vv : Byt.hexv c = 16 := by unfold Byt.hexv; rw [if_neg (by omega), if_neg (by omega), if_neg (by omega)]
    have vd : Byt.dig c = false := by simp [Byt.dig]; omega
    rw [vv]
    clear k0 k1
    clear vv
    go_enter Tryz.func330, Tryz.ntmps330
    go_wp2_with (go_at_call 238; refine (a_isDigit _ _).mono ?_; rintro e w' ⟨rfl, rfl⟩)
    go_ret
    exact ⟨by first | rfl | (refine congrArg (fun z => Ending.returned (Value.int .i64 z)) ?_; omega), rfl⟩
  by_cases k3 : c.toNat ≤ 70
  · have l0 : 65 ≤ c.toNat := by omega
    have vv : Byt.hexv c = c.toNat - 55 := by unfold Byt.hexv; rw [if_neg (by omega), if_neg (by omega), if_pos (by omega)]
    have vd : Byt.dig c = false := by simp [Byt.dig]; omega
    rw [vv]
    clear k0 k1 k2
    clear vv
    go_enter Tryz.func330, Tryz.ntmps330
    go_wp2_with (go_at_call 238; refine (a_isDigit _ _).mono ?_; rintro e w' ⟨rfl, rfl⟩)
    go_ret
    exact ⟨by first | rfl | (refine congrArg (fun z => Ending.returned (Value.int .i64 z)) ?_; omega), rfl⟩
  by_cases k4 : c.toNat ≤ 96
  · have l0 : 71 ≤ c.toNat := by omega
    have vv : Byt.hexv c = 16 := by unfold Byt.hexv; rw [if_neg (by omega), if_neg (by omega), if_neg (by omega)]
    have vd : Byt.dig c = false := by simp [Byt.dig]; omega
    rw [vv]
    clear k0 k1 k2 k3
    clear vv
    go_enter Tryz.func330, Tryz.ntmps330
    go_wp2_with (go_at_call 238; refine (a_isDigit _ _).mono ?_; rintro e w' ⟨rfl, rfl⟩)
    go_ret
    exact ⟨by first | rfl | (refine congrArg (fun z => Ending.returned (Value.int .i64 z)) ?_; omega), rfl⟩
  by_cases k5 : c.toNat ≤ 102
  · have l0 : 97 ≤ c.toNat := by omega
    have vv : Byt.hexv c = c.toNat - 87 := by unfold Byt.hexv; rw [if_neg (by omega), if_pos (by omega)]
    have vd : Byt.dig c = false := by simp [Byt.dig]; omega
    rw [vv]
    clear k0 k1 k2 k3 k4
    clear vv
    go_enter Tryz.func330, Tryz.ntmps330
    go_wp2_with (go_at_call 238; refine (a_isDigit _ _).mono ?_; rintro e w' ⟨rfl, rfl⟩)
    go_ret
    exact ⟨by first | rfl | (refine congrArg (fun z => Ending.returned (Value.int .i64 z)) ?_; omega), rfl⟩
  have l0 : 103 ≤ c.toNat := by omega
  have vv : Byt.hexv c = 16 := by unfold Byt.hexv; rw [if_neg (by omega), if_neg (by omega), if_neg (by omega)]
  have vd : Byt.dig c = false := by simp [Byt.dig]; omega
  rw [vv]
  clear k0 k1 k2 k3 k4 k5
  clear vv
  go_enter Tryz.func330, Tryz.ntmps330
  go_wp2_with (go_at_call 238; refine (a_isDigit _ _).mono ?_; rintro e w' ⟨rfl, rfl⟩)
  go_ret
  exact ⟨by first | rfl | (refine congrArg (fun z => Ending.returned (Value.int .i64 z)) ?_; omega), rfl⟩
set_option maxHeartbeats 1000000 in
theorem u_hex (c : UInt8) (w : World) :
    Calls Tryz.prog 293 #[.int .u8 (c.toNat : Int)] w fun e w' => e = .returned (.int .i64 (if Byt.hexv c = 16 then -1 else (Byt.hexv c : Int))) ∧ w' = w := by
  have hbd := u8_bd c
  by_cases k0 : c.toNat ≤ 47
  · have l0 : 0 ≤ c.toNat := by omega
    have vv : Byt.hexv c = 16 := by unfold Byt.hexv; rw [if_neg (by omega), if_neg (by omega), if_neg (by omega)]
    have vd : Byt.dig c = false := by simp [Byt.dig]; omega
    rw [vv]
    rw [if_pos rfl]
    skip
    clear vv
    go_enter Tryz.func293, Tryz.ntmps293
    go_wp2_with (go_at_call 245; refine (u_digit _ _).mono ?_; rintro e w' ⟨rfl, rfl⟩)
    go_ret
    exact ⟨by first | rfl | (refine congrArg (fun z => Ending.returned (Value.int .i64 z)) ?_; omega), rfl⟩
  by_cases k1 : c.toNat ≤ 57
  · have l0 : 48 ≤ c.toNat := by omega
    have vv : Byt.hexv c = c.toNat - 48 := by unfold Byt.hexv; rw [if_pos (by omega)]
    have vd : Byt.dig c = true := by simp [Byt.dig]; omega
    rw [vv]
    rw [if_neg (by omega)]
    clear k0
    clear vv
    go_enter Tryz.func293, Tryz.ntmps293
    go_wp2_with (go_at_call 245; refine (u_digit _ _).mono ?_; rintro e w' ⟨rfl, rfl⟩)
    go_ret
    exact ⟨by first | rfl | (refine congrArg (fun z => Ending.returned (Value.int .i64 z)) ?_; omega), rfl⟩
  by_cases k2 : c.toNat ≤ 64
  · have l0 : 58 ≤ c.toNat := by omega
    have vv : Byt.hexv c = 16 := by unfold Byt.hexv; rw [if_neg (by omega), if_neg (by omega), if_neg (by omega)]
    have vd : Byt.dig c = false := by simp [Byt.dig]; omega
    rw [vv]
    rw [if_pos rfl]
    clear k0 k1
    clear vv
    go_enter Tryz.func293, Tryz.ntmps293
    go_wp2_with (go_at_call 245; refine (u_digit _ _).mono ?_; rintro e w' ⟨rfl, rfl⟩)
    go_ret
    exact ⟨by first | rfl | (refine congrArg (fun z => Ending.returned (Value.int .i64 z)) ?_; omega), rfl⟩
  by_cases k3 : c.toNat ≤ 70
  · have l0 : 65 ≤ c.toNat := by omega
    have vv : Byt.hexv c = c.toNat - 55 := by unfold Byt.hexv; rw [if_neg (by omega), if_neg (by omega), if_pos (by omega)]
    have vd : Byt.dig c = false := by simp [Byt.dig]; omega
    rw [vv]
    rw [if_neg (by omega)]
    clear k0 k1 k2
    clear vv
    go_enter Tryz.func293, Tryz.ntmps293
    go_wp2_with (go_at_call 245; refine (u_digit _ _).mono ?_; rintro e w' ⟨rfl, rfl⟩)
    go_ret
    exact ⟨by first | rfl | (refine congrArg (fun z => Ending.returned (Value.int .i64 z)) ?_; omega), rfl⟩
  by_cases k4 : c.toNat ≤ 96
  · have l0 : 71 ≤ c.toNat := by omega
    have vv : Byt.hexv c = 16 := by unfold Byt.hexv; rw [if_neg (by omega), if_neg (by omega), if_neg (by omega)]
    have vd : Byt.dig c = false := by simp [Byt.dig]; omega
    rw [vv]
    rw [if_pos rfl]
    clear k0 k1 k2 k3
    clear vv
    go_enter Tryz.func293, Tryz.ntmps293
    go_wp2_with (go_at_call 245; refine (u_digit _ _).mono ?_; rintro e w' ⟨rfl, rfl⟩)
    go_ret
    exact ⟨by first | rfl | (refine congrArg (fun z => Ending.returned (Value.int .i64 z)) ?_; omega), rfl⟩
  by_cases k5 : c.toNat ≤ 102
  · have l0 : 97 ≤ c.toNat := by omega
    have vv : Byt.hexv c = c.toNat - 87 := by unfold Byt.hexv; rw [if_neg (by omega), if_pos (by omega)]
    have vd : Byt.dig c = false := by simp [Byt.dig]; omega
    rw [vv]
    rw [if_neg (by omega)]
    clear k0 k1 k2 k3 k4
    clear vv
    go_enter Tryz.func293, Tryz.ntmps293
    go_wp2_with (go_at_call 245; refine (u_digit _ _).mono ?_; rintro e w' ⟨rfl, rfl⟩)
    go_ret
    exact ⟨by first | rfl | (refine congrArg (fun z => Ending.returned (Value.int .i64 z)) ?_; omega), rfl⟩
  have l0 : 103 ≤ c.toNat := by omega
  have vv : Byt.hexv c = 16 := by unfold Byt.hexv; rw [if_neg (by omega), if_neg (by omega), if_neg (by omega)]
  have vd : Byt.dig c = false := by simp [Byt.dig]; omega
  rw [vv]
  rw [if_pos rfl]
  clear k0 k1 k2 k3 k4 k5
  clear vv
  go_enter Tryz.func293, Tryz.ntmps293
  go_wp2_with (go_at_call 245; refine (u_digit _ _).mono ?_; rintro e w' ⟨rfl, rfl⟩)
  go_ret
  exact ⟨by first | rfl | (refine congrArg (fun z => Ending.returned (Value.int .i64 z)) ?_; omega), rfl⟩
namespace Byt
def digs (base : Nat) : Nat → List UInt8 → Option Nat
  | acc, [] => some acc
  | acc, c :: l => if base ≤ hexv c then none else digs base (acc * base + hexv c) l
def rdig (base most : Nat) (l : List UInt8) : Option Nat := if l.length < 1 ∨ most < l.length then none else digs base 0 l
end Byt
theorem dropb (s : ByteArray) (i : Nat) (h : i < s.size) : s.data.toList.drop i = s[i] :: s.data.toList.drop (i + 1) := by
  rw [List.drop_eq_getElem_cons (by simpa using h)]; rfl
theorem digs_hit {base acc : Nat} {s : ByteArray} {i : Nat} {T : Option Nat} (hi : i < s.size) (h : Byt.hexv s[i] < base) (hh : Hid (Byt.digs base acc (s.data.toList.drop i) = T)) : Hid (Byt.digs base (acc * base + Byt.hexv s[i]) (s.data.toList.drop (i + 1)) = T) := by
  have := hh.out
  rw [dropb s i hi] at this
  simp only [Byt.digs, if_neg (show ¬ base ≤ Byt.hexv s[i] by omega)] at this
  exact this
theorem digs_miss {base acc : Nat} {s : ByteArray} {i : Nat} {T : Option Nat} (hi : i < s.size) (h : base ≤ Byt.hexv s[i]) (hh : Hid (Byt.digs base acc (s.data.toList.drop i) = T)) : T = none := by
  have := hh.out
  rw [dropb s i hi] at this
  simp only [Byt.digs, if_pos h] at this
  exact this.symm
set_option maxHeartbeats 1000000 in
theorem a_readDigits_10 (s : ByteArray) (hs : s.size ≤ 5000) (w : World) :
    Calls Tryz.prog 322 #[.string s, .int .i64 10, .int .i64 10] w fun e w' => (∃ o : Option Nat, Hid (Byt.rdig 10 10 s.data.toList = o) ∧ o.getD 0 ≤ 10000000000 ∧ e = .returned (.tuple #[.int .i64 (o.getD 0 : Nat), .bool o.isSome])) ∧ w' = w := by
  have hlen : s.data.toList.length = s.size := by simp
  by_cases c1 : s.size < 1
  · go_enter Tryz.func322, Tryz.ntmps322
    go_wp2
    go_ret2
    exact ⟨⟨none, (by unfold Byt.rdig; rw [if_pos (by omega)] : _ = _), by simp, rfl⟩, rfl⟩
  by_cases c2 : 10 < s.size
  · go_enter Tryz.func322, Tryz.ntmps322
    go_wp2
    go_ret2
    exact ⟨⟨none, (by unfold Byt.rdig; rw [if_pos (by omega)] : _ = _), by simp, rfl⟩, rfl⟩
  have hr : Byt.rdig 10 10 s.data.toList = Byt.digs 10 0 (s.data.toList.drop 0) := by unfold Byt.rdig; rw [if_neg (by omega)]; rfl
  rw [hr]
  obtain ⟨T, hT⟩ : ∃ T, T = Byt.digs 10 0 (s.data.toList.drop 0) := ⟨_, rfl⟩
  rw [← hT]
  have HT : Hid (Byt.digs 10 0 (s.data.toList.drop 0) = T) := hT.symm
  clear hT hr hlen
  go_enter Tryz.func322, Tryz.ntmps322
  go_wp2
  go_loop [8, 9] (fun a d => ∃ i acc : Nat, i ≤ s.size ∧ a = .int .i64 acc ∧ d = .int .i64 i ∧ Hid (acc + 1 ≤ 10 ^ i) ∧ Hid (Byt.digs 10 acc (s.data.toList.drop i) = T)) (fun _ d => s.size - (intOf d).toNat)
  case atStart => exact ⟨0, 0, by omega, rfl, rfl, (by decide : 0 + 1 ≤ 10 ^ 0), HT⟩
  case round =>
    obtain ⟨i, acc, hi0, rfl, rfl, hac, hh⟩ := hrel
    have ba : acc ≤ 10000000000 := by
      have h1 := hac.out
      have h2 : 10 ^ i ≤ 10 ^ 10 := Nat.pow_le_pow_right (by decide) (by omega)
      have h3 : ((10 : Nat) ^ 10) = 10000000000 := by decide
      omega
    by_cases hi : i < s.size
    · go_wp2_with fail
      refine (a_digitValue s[i] _).mono ?_
      rintro e w' ⟨rfl, rfl⟩
      obtain ⟨d, hd⟩ : ∃ d, d = Byt.hexv s[i] := ⟨_, rfl⟩
      rw [← hd]
      have HD := hide1 hd
      clear hd
      by_cases hlt : 10 ≤ d
      · have hn := hide1 (digs_miss hi (by rw [← HD.out]; exact hlt) hh)
        clear hh
        go_wp2
        go_ret2
        exact ⟨⟨none, hn, by simp, rfl⟩, rfl⟩
      · have hn := digs_hit hi (by rw [← HD.out]; omega) hh
        rw [← HD.out] at hn
        clear hh
        have hac' : Hid (acc * 10 + d + 1 ≤ 10 ^ (i + 1)) := by
          show _ ≤ _
          have h1 := hac.out
          have h2 : (acc + 1) * 10 ≤ 10 ^ i * 10 := Nat.mul_le_mul_right _ h1
          rw [Nat.pow_succ]; omega
        clear hac
        go_wp2
        go_round
        case rel => exact ⟨i + 1, acc * 10 + d, by omega, by go_num, by go_num, hac', hn⟩
        case measure => simp [intOf]; omega
    · obtain rfl : i = s.size := by omega
      have hd : s.data.toList.drop s.size = [] := List.drop_eq_nil_of_le (by simp)
      rw [hd] at hh
      have hT : Hid (some acc = T) := hh
      clear hh hd
      go_wp2
      go_ret2
      exact ⟨⟨some acc, hT.out.symm, ba, rfl⟩, rfl⟩
set_option maxHeartbeats 1000000 in
theorem a_readDigits_16 (s : ByteArray) (hs : s.size ≤ 5000) (w : World) :
    Calls Tryz.prog 322 #[.string s, .int .i64 16, .int .i64 8] w fun e w' => (∃ o : Option Nat, Hid (Byt.rdig 16 8 s.data.toList = o) ∧ o.getD 0 ≤ 4294967296 ∧ e = .returned (.tuple #[.int .i64 (o.getD 0 : Nat), .bool o.isSome])) ∧ w' = w := by
  have hlen : s.data.toList.length = s.size := by simp
  by_cases c1 : s.size < 1
  · go_enter Tryz.func322, Tryz.ntmps322
    go_wp2
    go_ret2
    exact ⟨⟨none, (by unfold Byt.rdig; rw [if_pos (by omega)] : _ = _), by simp, rfl⟩, rfl⟩
  by_cases c2 : 8 < s.size
  · go_enter Tryz.func322, Tryz.ntmps322
    go_wp2
    go_ret2
    exact ⟨⟨none, (by unfold Byt.rdig; rw [if_pos (by omega)] : _ = _), by simp, rfl⟩, rfl⟩
  have hr : Byt.rdig 16 8 s.data.toList = Byt.digs 16 0 (s.data.toList.drop 0) := by unfold Byt.rdig; rw [if_neg (by omega)]; rfl
  rw [hr]
  obtain ⟨T, hT⟩ : ∃ T, T = Byt.digs 16 0 (s.data.toList.drop 0) := ⟨_, rfl⟩
  rw [← hT]
  have HT : Hid (Byt.digs 16 0 (s.data.toList.drop 0) = T) := hT.symm
  clear hT hr hlen
  go_enter Tryz.func322, Tryz.ntmps322
  go_wp2
  go_loop [8, 9] (fun a d => ∃ i acc : Nat, i ≤ s.size ∧ a = .int .i64 acc ∧ d = .int .i64 i ∧ Hid (acc + 1 ≤ 16 ^ i) ∧ Hid (Byt.digs 16 acc (s.data.toList.drop i) = T)) (fun _ d => s.size - (intOf d).toNat)
  case atStart => exact ⟨0, 0, by omega, rfl, rfl, (by decide : 0 + 1 ≤ 16 ^ 0), HT⟩
  case round =>
    obtain ⟨i, acc, hi0, rfl, rfl, hac, hh⟩ := hrel
    have ba : acc ≤ 4294967296 := by
      have h1 := hac.out
      have h2 : 16 ^ i ≤ 16 ^ 8 := Nat.pow_le_pow_right (by decide) (by omega)
      have h3 : ((16 : Nat) ^ 8) = 4294967296 := by decide
      omega
    by_cases hi : i < s.size
    · go_wp2_with fail
      refine (a_digitValue s[i] _).mono ?_
      rintro e w' ⟨rfl, rfl⟩
      obtain ⟨d, hd⟩ : ∃ d, d = Byt.hexv s[i] := ⟨_, rfl⟩
      rw [← hd]
      have HD := hide1 hd
      clear hd
      by_cases hlt : 16 ≤ d
      · have hn := hide1 (digs_miss hi (by rw [← HD.out]; exact hlt) hh)
        clear hh
        go_wp2
        go_ret2
        exact ⟨⟨none, hn, by simp, rfl⟩, rfl⟩
      · have hn := digs_hit hi (by rw [← HD.out]; omega) hh
        rw [← HD.out] at hn
        clear hh
        have hac' : Hid (acc * 16 + d + 1 ≤ 16 ^ (i + 1)) := by
          show _ ≤ _
          have h1 := hac.out
          have h2 : (acc + 1) * 16 ≤ 16 ^ i * 16 := Nat.mul_le_mul_right _ h1
          rw [Nat.pow_succ]; omega
        clear hac
        go_wp2
        go_round
        case rel => exact ⟨i + 1, acc * 16 + d, by omega, by go_num, by go_num, hac', hn⟩
        case measure => simp [intOf]; omega
    · obtain rfl : i = s.size := by omega
      have hd : s.data.toList.drop s.size = [] := List.drop_eq_nil_of_le (by simp)
      rw [hd] at hh
      have hT : Hid (some acc = T) := hh
      clear hh hd
      go_wp2
      go_ret2
      exact ⟨⟨some acc, hT.out.symm, ba, rfl⟩, rfl⟩
end Go.Proofs.YthfofjkfbhahoaaGreatDoor
end
section
namespace Go.Proofs.YthfofjkfbhahoaaGreatDoor
open Go.RowKit
set_option linter.unusedSimpArgs false
namespace Byt
/-- where the row of inner bytes that begins at a place ends -/
def rowEnd (l : List UInt8) : Nat := match l with
  | [] => 0
  | c :: l => if inn c = true then rowEnd l + 1 else 0
def isName (l : List UInt8) : Bool := match l with
  | [] => false
  | c :: _ => !(dig c) && l.all nmc
/-- a number without a sign -/
def plain (l : List UInt8) : Option Nat :=
  if 2 < l.length ∧ l[0]? = some 48 ∧ l[1]? = some 120 then rdig 16 8 (l.drop 2) else rdig 10 10 l
end Byt
theorem rowEnd_le : ∀ l : List UInt8, Byt.rowEnd l ≤ l.length
  | [] => by simp [Byt.rowEnd]
  | c :: l => by
    have := rowEnd_le l
    simp only [Byt.rowEnd, List.length_cons]; split <;> omega
theorem inn_of (c : UInt8) : Byt.inn c = (Byt.nmc c || ((c.toNat : Int) == 45)) := by
  unfold Byt.inn
  congr 1
  rw [Bool.eq_iff_iff, decide_eq_true_eq, beq_iff_eq]; omega
set_option maxHeartbeats 1000000 in
theorem a_rowEnd (s : ByteArray) (hs : s.size ≤ 5000) (a : Nat) (ha : a ≤ s.size) (w : World) :
    Calls Tryz.prog 193 #[.string s, .int .i64 a] w fun e w' => e = .returned (.int .i64 (a + Byt.rowEnd (s.data.toList.drop a) : Nat)) ∧ w' = w := by
  obtain ⟨T, hT⟩ : ∃ T, T = a + Byt.rowEnd (s.data.toList.drop a) := ⟨_, rfl⟩
  rw [← hT]
  have HT := hide1 hT
  clear hT
  go_enter Tryz.func193, Tryz.ntmps193
  go_wp2
  go_loop [1] (fun d => ∃ i : Nat, i ≤ s.size ∧ d = .int .i64 i ∧ Hid (T = i + Byt.rowEnd (s.data.toList.drop i))) (fun d => s.size - (intOf d).toNat)
  case atStart => exact ⟨a, ha, rfl, HT⟩
  case round =>
    obtain ⟨i, hi0, rfl, hh⟩ := hrel
    by_cases hi : i < s.size
    · rw [dropb s i hi] at hh
      have hin := inn_of s[i]
      cases hn : Byt.nmc s[i]
      · cases h45 : ((s[i].toNat : Int) == 45)
        · have hT : Hid (T = i) := (by rw [hh.out]; simp only [Byt.rowEnd]; rw [hin, hn, h45, if_neg (by decide)]; rfl : T = i)
          clear hh hin
          go_wp2_with (go_at_call 237; refine (a_isNameByte _ _).mono ?_; rintro e w' ⟨rfl, rfl⟩)
          go_ret
          exact ⟨by rw [hT.out]; rfl, rfl⟩
        · have hv : Hid (T = i + 1 + Byt.rowEnd (s.data.toList.drop (i + 1))) := (by rw [hh.out]; simp only [Byt.rowEnd]; rw [hin, hn, h45, if_pos (by rfl)]; omega : _ = _)
          clear hh hin
          go_wp2_with (go_at_call 237; refine (a_isNameByte _ _).mono ?_; rintro e w' ⟨rfl, rfl⟩)
          go_round
          case rel => exact ⟨i + 1, by omega, by go_num, hv⟩
          case measure => simp [intOf]; omega
      · have hv : Hid (T = i + 1 + Byt.rowEnd (s.data.toList.drop (i + 1))) := (by rw [hh.out]; simp only [Byt.rowEnd]; rw [hin, hn, if_pos (by rfl)]; omega : _ = _)
        clear hh hin
        go_wp2_with (go_at_call 237; refine (a_isNameByte _ _).mono ?_; rintro e w' ⟨rfl, rfl⟩)
        go_round
        case rel => exact ⟨i + 1, by omega, by go_num, hv⟩
        case measure => simp [intOf]; omega
    · obtain rfl : i = s.size := by omega
      have hd : s.data.toList.drop s.size = [] := List.drop_eq_nil_of_le (by simp)
      rw [hd] at hh
      have hT : Hid (T = s.size) := hh
      have hlt : decide ((s.size : Int) < (s.size : Int)) = false := by simp
      clear hh hd
      go_wp2
      go_ret
      exact ⟨by rw [hT.out]; rfl, rfl⟩
theorem empty_of {s : ByteArray} (h : s.size = 0) : s.toList.isEmpty = true := by
  rw [Lib.toList_data, List.isEmpty_iff]; exact List.eq_nil_of_length_eq_zero (by simpa using h)
theorem nonempty_of {s : ByteArray} (h : 0 < s.size) : s.toList.isEmpty = false := by
  rw [Lib.toList_data]
  cases hd : s.data.toList with
  | nil => have : s.data.toList.length = s.size := by simp
           rw [hd] at this; simp at this; omega
  | cons a l => rfl
set_option maxHeartbeats 1000000 in
theorem a_isName (s : ByteArray) (hs : s.size ≤ 5000) (w : World) :
    Calls Tryz.prog 195 #[.string s] w fun e w' => e = .returned (.bool (Byt.isName s.data.toList)) ∧ w' = w := by
  by_cases h0 : s.size = 0
  · have hl : s.data.toList = [] := List.eq_nil_of_length_eq_zero (by simpa using h0)
    have he := empty_of h0
    rw [show Byt.isName s.data.toList = false by rw [hl]; rfl]
    clear hl h0
    go_enter Tryz.func195, Tryz.ntmps195
    go_wp2
    go_ret
    exact ⟨rfl, rfl⟩
  · have hp : 0 < s.size := by omega
    have he := nonempty_of hp
    have hn : Byt.isName s.data.toList = (!(Byt.dig s[0]) && (s.data.toList.drop 0).all Byt.nmc) := by
      have h := dropb s 0 hp
      rw [List.drop_zero] at h
      conv => lhs; rw [h]
      simp only [Byt.isName]
      rw [← h]; rfl
    rw [hn]
    clear hn h0
    cases hd : Byt.dig s[0]
    · rw [Bool.not_false, Bool.true_and]
      obtain ⟨T, hT⟩ : ∃ T, T = (s.data.toList.drop 0).all Byt.nmc := ⟨_, rfl⟩
      rw [← hT]
      have HT := hide1 hT
      clear hT
      go_enter Tryz.func195, Tryz.ntmps195
      go_wp2_with (go_at_call 238; refine (a_isDigit _ _).mono ?_; rintro e w' ⟨rfl, rfl⟩)
      go_loop [3] (fun d => ∃ i : Nat, i ≤ s.size ∧ d = .int .i64 i ∧ Hid (T = (s.data.toList.drop i).all Byt.nmc)) (fun d => s.size - (intOf d).toNat)
      case atStart => exact ⟨0, by omega, rfl, HT⟩
      case round =>
        obtain ⟨i, hi0, rfl, hh⟩ := hrel
        by_cases hi : i < s.size
        · rw [dropb s i hi, show (s[i] :: s.data.toList.drop (i + 1)).all Byt.nmc = (Byt.nmc s[i] && (s.data.toList.drop (i + 1)).all Byt.nmc) from rfl] at hh
          cases hn : Byt.nmc s[i]
          · rw [hn, Bool.false_and] at hh
            go_wp2_with (go_at_call 237; refine (a_isNameByte _ _).mono ?_; rintro e w' ⟨rfl, rfl⟩)
            go_ret
            exact ⟨by rw [hh.out]; rfl, rfl⟩
          · rw [hn, Bool.true_and] at hh
            go_wp2_with (go_at_call 237; refine (a_isNameByte _ _).mono ?_; rintro e w' ⟨rfl, rfl⟩)
            go_round
            case rel => exact ⟨i + 1, by omega, by go_num, hh⟩
            case measure => simp [intOf]; omega
        · obtain rfl : i = s.size := by omega
          have hdr : s.data.toList.drop s.size = [] := List.drop_eq_nil_of_le (by simp)
          rw [hdr] at hh
          have hT : Hid (T = true) := hh
          clear hh hdr
          go_wp2
          go_ret
          exact ⟨by rw [hT.out]; rfl, rfl⟩
    · go_enter Tryz.func195, Tryz.ntmps195
      go_wp2_with (go_at_call 238; refine (a_isDigit _ _).mono ?_; rintro e w' ⟨rfl, rfl⟩)
      go_ret
      exact ⟨rfl, rfl⟩
end Go.Proofs.YthfofjkfbhahoaaGreatDoor
end
section
namespace Go.Proofs.YthfofjkfbhahoaaGreatDoor
open Go.RowKit
set_option linter.unusedSimpArgs false
theorem get0 (s : ByteArray) (i : Nat) (h : i < s.size) : s.data.toList[i]? = some s[i] := by
  rw [List.getElem?_eq_getElem (by simpa using h)]; rfl
theorem u8e {c : UInt8} {n : Nat} (hn : n < 256) : (c.toNat : Int) = n ↔ c = UInt8.ofNat n := by
  constructor
  · intro h; apply UInt8.toNat_inj.1; simp; omega
  · intro h; subst h; simp; omega
theorem plain_hex {s : ByteArray} (h : 2 < s.size) (h0 : ((s[0].toNat : Int) == 48) = true) (h1 : ((s[1].toNat : Int) == 120) = true) : Byt.plain s.data.toList = Byt.rdig 16 8 (s.extract 2 s.size).data.toList := by
  unfold Byt.plain
  replace h0 := (u8e (n := 48) (by decide)).1 (beq_iff_eq.1 h0)
  replace h1 := (u8e (n := 120) (by decide)).1 (beq_iff_eq.1 h1)
  rw [if_pos ⟨by simpa using h, by rw [get0 s 0 (by omega), h0]; rfl, by rw [get0 s 1 (by omega), h1]; rfl⟩, Lib.extract_to_end]
theorem plain_dec1 {s : ByteArray} (h : ¬ 2 < s.size) : Byt.plain s.data.toList = Byt.rdig 10 10 s.data.toList := by
  unfold Byt.plain; rw [if_neg (fun hh => h (by simpa using hh.1))]
theorem plain_dec2 {s : ByteArray} (h : 2 < s.size) (h0 : ((s[0].toNat : Int) == 48) = false) : Byt.plain s.data.toList = Byt.rdig 10 10 s.data.toList := by
  unfold Byt.plain
  replace h0 := fun e => (beq_eq_false_iff_ne.1 h0) ((u8e (n := 48) (by decide)).2 e)
  rw [if_neg (fun hh => h0 (by have := hh.2.1; rw [get0 s 0 (by omega)] at this; exact Option.some.inj this))]
theorem plain_dec3 {s : ByteArray} (h : 2 < s.size) (h1 : ((s[1].toNat : Int) == 120) = false) : Byt.plain s.data.toList = Byt.rdig 10 10 s.data.toList := by
  unfold Byt.plain
  replace h1 := fun e => (beq_eq_false_iff_ne.1 h1) ((u8e (n := 120) (by decide)).2 e)
  rw [if_neg (fun hh => h1 (by have := hh.2.2; rw [get0 s 1 (by omega)] at this; exact Option.some.inj this))]
set_option maxHeartbeats 1000000 in
theorem a_readPlain (s : ByteArray) (hs : s.size ≤ 5000) (w : World) :
    Calls Tryz.prog 286 #[.string s] w fun e w' => (∃ o : Option Nat, Hid (Byt.plain s.data.toList = o) ∧ o.getD 0 ≤ 10000000000 ∧ e = .returned (.tuple #[.int .i64 (o.getD 0 : Nat), .bool o.isSome])) ∧ w' = w := by
  by_cases c1 : 2 < s.size
  · cases h0 : ((s[0].toNat : Int) == 48)
    · have HP := hide1 (plain_dec2 c1 h0)
      go_enter Tryz.func286, Tryz.ntmps286
      go_wp2_with fail
      refine (a_readDigits_10 s hs _).mono ?_
      rintro e w' ⟨⟨o, ho, hb, rfl⟩, rfl⟩
      go_wp2
      go_ret2
      exact ⟨⟨o, (HP.out.trans ho.out : _ = _), by omega, rfl⟩, rfl⟩
    · cases h1 : ((s[1].toNat : Int) == 120)
      · have HP := hide1 (plain_dec3 c1 h1)
        go_enter Tryz.func286, Tryz.ntmps286
        go_wp2_with fail
        refine (a_readDigits_10 s hs _).mono ?_
        rintro e w' ⟨⟨o, ho, hb, rfl⟩, rfl⟩
        go_wp2
        go_ret2
        exact ⟨⟨o, (HP.out.trans ho.out : _ = _), by omega, rfl⟩, rfl⟩
      · have HP := hide1 (plain_hex c1 h0 h1)
        go_enter Tryz.func286, Tryz.ntmps286
        go_wp2_with fail
        refine (a_readDigits_16 (s.extract 2 s.size) (by simp; omega) _).mono ?_
        rintro e w' ⟨⟨o, ho, hb, rfl⟩, rfl⟩
        go_wp2
        go_ret2
        exact ⟨⟨o, (HP.out.trans ho.out : _ = _), by omega, rfl⟩, rfl⟩
  · have HP := hide1 (plain_dec1 c1)
    go_enter Tryz.func286, Tryz.ntmps286
    go_wp2_with fail
    refine (a_readDigits_10 s hs _).mono ?_
    rintro e w' ⟨⟨o, ho, hb, rfl⟩, rfl⟩
    go_wp2
    go_ret2
    exact ⟨⟨o, (HP.out.trans ho.out : _ = _), by omega, rfl⟩, rfl⟩
namespace Byt
/-- a number, perhaps with a sign, and whether it is one -/
def number (l : List UInt8) : Int × Bool :=
  if l[0]? = some 45 then (-(((plain (l.drop 1)).getD 0 : Nat) : Int), (plain (l.drop 1)).isSome) else ((((plain l).getD 0 : Nat) : Int), (plain l).isSome)
end Byt
theorem number_neg {s : ByteArray} (h : 0 < s.size) (h0 : ((s[0].toNat : Int) == 45) = true) : Byt.number s.data.toList = (-(((Byt.plain (s.extract 1 s.size).data.toList).getD 0 : Nat) : Int), (Byt.plain (s.extract 1 s.size).data.toList).isSome) := by
  replace h0 := (u8e (n := 45) (by decide)).1 (beq_iff_eq.1 h0)
  unfold Byt.number
  rw [if_pos (by rw [get0 s 0 h, h0]; rfl), Lib.extract_to_end]
theorem number_pos {s : ByteArray} (h : ¬ (0 < s.size) ∨ ∃ h : 0 < s.size, ((s[0].toNat : Int) == 45) = false) : Byt.number s.data.toList = ((((Byt.plain s.data.toList).getD 0 : Nat) : Int), (Byt.plain s.data.toList).isSome) := by
  unfold Byt.number
  rw [if_neg]
  intro hh
  rcases h with h | ⟨h, h0⟩
  · rw [List.getElem?_eq_none (by simp at h; simp [h])] at hh; cases hh
  · replace h0 := fun e => (beq_eq_false_iff_ne.1 h0) ((u8e (n := 45) (by decide)).2 e)
    rw [get0 s 0 h] at hh
    exact h0 (Option.some.inj hh)
set_option maxHeartbeats 1000000 in
theorem a_readNumber (s : ByteArray) (hs : s.size ≤ 5000) (w : World) :
    Calls Tryz.prog 263 #[.string s] w fun e w' => e = .returned (.tuple #[.int .i64 (Byt.number s.data.toList).1, .bool (Byt.number s.data.toList).2]) ∧ w' = w := by
  by_cases c1 : 0 < s.size
  · cases h0 : ((s[0].toNat : Int) == 45)
    · have HP := hide1 (number_pos (.inr ⟨c1, h0⟩))
      go_enter Tryz.func263, Tryz.ntmps263
      go_wp2_with fail
      refine (a_readPlain s hs _).mono ?_
      rintro e w' ⟨⟨o, ho, hb, rfl⟩, rfl⟩
      rw [ho.out] at HP
      go_wp2
      go_ret2
      exact ⟨by rw [HP.out]; rfl, rfl⟩
    · have HP := hide1 (number_neg c1 h0)
      go_enter Tryz.func263, Tryz.ntmps263
      go_wp2_with fail
      refine (a_readPlain (s.extract 1 s.size) (by simp; omega) _).mono ?_
      rintro e w' ⟨⟨o, ho, hb, rfl⟩, rfl⟩
      rw [ho.out] at HP
      go_wp2
      go_ret2
      exact ⟨by rw [HP.out]; rfl, rfl⟩
  · have HP := hide1 (number_pos (.inl c1))
    have c2 : decide ((0 : Int) < (s.size : Int)) = false := by rw [decide_eq_false_iff_not]; omega
    go_enter Tryz.func263, Tryz.ntmps263
    go_wp2_with fail
    refine (a_readPlain s hs _).mono ?_
    rintro e w' ⟨⟨o, ho, hb, rfl⟩, rfl⟩
    rw [ho.out] at HP
    go_wp2
    go_ret2
    exact ⟨by rw [HP.out]; rfl, rfl⟩
end Go.Proofs.YthfofjkfbhahoaaGreatDoor
end
section
namespace Go.Proofs.YthfofjkfbhahoaaGreatDoor
open Go.RowKit
set_option linter.unusedSimpArgs false
theorem plain_hexR {s : ByteArray} (h : 2 ≤ s.size) (h0 : ((s[0].toNat : Int) == 48) = true) (h1 : ((s[1].toNat : Int) == 120) = true) : Byt.plain s.data.toList = Byt.rdig 16 8 (s.extract 2 s.size).data.toList := by
  by_cases h2 : 2 < s.size
  · exact plain_hex h2 h0 h1
  · rw [plain_dec1 h2, Lib.extract_to_end]
    replace h0 := (u8e (n := 48) (by decide)).1 (beq_iff_eq.1 h0)
    replace h1 := (u8e (n := 120) (by decide)).1 (beq_iff_eq.1 h1)
    have e : s.data.toList = [48, 120] := by
      have a := dropb s 0 (by omega)
      have b := dropb s 1 (by omega)
      rw [List.drop_zero] at a
      rw [a, b, h0, h1, List.drop_eq_nil_of_le (by simp; omega)]; rfl
    rw [e]; rfl
theorem plain_decR {s : ByteArray} (h : ¬ 2 ≤ s.size ∨ (∃ h : 2 ≤ s.size, ((s[0].toNat : Int) == 48) = false) ∨ (∃ h : 2 ≤ s.size, ((s[1].toNat : Int) == 120) = false)) : Byt.plain s.data.toList = Byt.rdig 10 10 s.data.toList := by
  by_cases h2 : 2 < s.size
  · rcases h with h | ⟨h, h0⟩ | ⟨h, h1⟩
    · omega
    · exact plain_dec2 h2 h0
    · exact plain_dec3 h2 h1
  · exact plain_dec1 h2
set_option maxHeartbeats 1000000 in
theorem u_plain_short (s : ByteArray) (hs : s.size ≤ 5000) (h2 : s.size < 2) (w : World) :
    Calls Tryz.prog 270 #[.string s] w fun e w' => (∃ o : Option Nat, Hid (Byt.plain s.data.toList = o) ∧ o.getD 0 ≤ 10000000000 ∧ e = .returned (.tuple #[.int .i64 (o.getD 0 : Nat), .bool o.isSome])) ∧ w' = w := by
  have hp := plain_decR (s := s) (.inl (by omega))
  have hlen : s.data.toList.length = s.size := by simp
  by_cases c1 : s.size < 1
  · have HP := hide1 (hp.trans (show Byt.rdig 10 10 s.data.toList = none by unfold Byt.rdig; rw [if_pos (by omega)]))
    clear hp
    go_enter Tryz.func270, Tryz.ntmps270
    go_wp2
    go_ret2
    exact ⟨⟨none, HP, by simp, rfl⟩, rfl⟩
  by_cases c2 : 10 < s.size
  · omega
  replace hp := hp.trans (show Byt.rdig 10 10 s.data.toList = Byt.digs 10 0 (s.data.toList.drop 0) by unfold Byt.rdig; rw [if_neg (by omega)]; rfl)
  obtain ⟨T, hT⟩ : ∃ T, T = Byt.digs 10 0 (s.data.toList.drop 0) := ⟨_, rfl⟩
  rw [← hT] at hp
  have HP := hide1 hp
  have HT : Hid (Byt.digs 10 0 (s.data.toList.drop 0) = T) := hT.symm
  clear hT hp hlen
  go_enter Tryz.func270, Tryz.ntmps270
  go_wp2
  go_loop [6, 7] (fun a d => ∃ i acc : Nat, i ≤ s.size ∧ a = .int .i64 acc ∧ d = .int .i64 i ∧ Hid (acc + 1 ≤ 10 ^ i) ∧ Hid (Byt.digs 10 acc (s.data.toList.drop i) = T)) (fun _ d => s.size - (intOf d).toNat)
  case atStart => exact ⟨0, 0, by omega, rfl, rfl, (by decide : 0 + 1 ≤ 10 ^ 0), HT⟩
  case round =>
    obtain ⟨i, acc, hi0, rfl, rfl, hac, hh⟩ := hrel
    have ba : acc ≤ 10000000000 := by
      have h1 := hac.out
      have h2 : 10 ^ i ≤ 10 ^ 10 := Nat.pow_le_pow_right (by decide) (by omega)
      have h3 : ((10 : Nat) ^ 10) = 10000000000 := by decide
      omega
    by_cases hi : i < s.size
    · go_wp2_with fail
      refine (u_hex s[i] _).mono ?_
      rintro e w' ⟨rfl, rfl⟩
      obtain ⟨d, hd⟩ : ∃ d, d = Byt.hexv s[i] := ⟨_, rfl⟩
      rw [← hd]
      have HD := hide1 hd
      clear hd
      by_cases d16 : d = 16
      · have hn := hide1 (digs_miss hi (by rw [← HD.out]; omega) hh)
        rw [if_pos d16]
        clear hh
        go_wp2
        go_ret2
        exact ⟨⟨none, (HP.out.trans hn.out : _ = _), by simp, rfl⟩, rfl⟩
      rw [if_neg d16]
      by_cases hlt : 10 ≤ d
      · have hn := hide1 (digs_miss hi (by rw [← HD.out]; exact hlt) hh)
        clear hh
        go_wp2
        go_ret2
        exact ⟨⟨none, (HP.out.trans hn.out : _ = _), by simp, rfl⟩, rfl⟩
      · have hn := digs_hit hi (by rw [← HD.out]; omega) hh
        rw [← HD.out] at hn
        clear hh
        have hac' : Hid (acc * 10 + d + 1 ≤ 10 ^ (i + 1)) := by
          show _ ≤ _
          have h1 := hac.out
          have h2 : (acc + 1) * 10 ≤ 10 ^ i * 10 := Nat.mul_le_mul_right _ h1
          rw [Nat.pow_succ]; omega
        clear hac
        go_wp2
        go_round
        case rel => exact ⟨i + 1, acc * 10 + d, by omega, by go_num, by go_num, hac', hn⟩
        case measure => simp [intOf]; omega
    · obtain rfl : i = s.size := by omega
      have hd : s.data.toList.drop s.size = [] := List.drop_eq_nil_of_le (by simp)
      rw [hd] at hh
      have hT : Hid (some acc = T) := hh
      clear hh hd
      go_wp2
      go_ret2
      exact ⟨⟨some acc, (HP.out.trans hT.out.symm : _ = _), (by show acc ≤ 10000000000; omega), rfl⟩, rfl⟩
set_option maxHeartbeats 1000000 in
theorem u_plain_no0 (s : ByteArray) (hs : s.size ≤ 5000) (h2 : 2 ≤ s.size) (h0 : ((s[0].toNat : Int) == 48) = false) (w : World) :
    Calls Tryz.prog 270 #[.string s] w fun e w' => (∃ o : Option Nat, Hid (Byt.plain s.data.toList = o) ∧ o.getD 0 ≤ 10000000000 ∧ e = .returned (.tuple #[.int .i64 (o.getD 0 : Nat), .bool o.isSome])) ∧ w' = w := by
  have hp := plain_decR (s := s) (.inr (.inl ⟨h2, h0⟩))
  have hlen : s.data.toList.length = s.size := by simp
  by_cases c1 : s.size < 1
  · omega
  by_cases c2 : 10 < s.size
  · have HP := hide1 (hp.trans (show Byt.rdig 10 10 s.data.toList = none by unfold Byt.rdig; rw [if_pos (by omega)]))
    clear hp
    go_enter Tryz.func270, Tryz.ntmps270
    go_wp2
    go_ret2
    exact ⟨⟨none, HP, by simp, rfl⟩, rfl⟩
  replace hp := hp.trans (show Byt.rdig 10 10 s.data.toList = Byt.digs 10 0 (s.data.toList.drop 0) by unfold Byt.rdig; rw [if_neg (by omega)]; rfl)
  obtain ⟨T, hT⟩ : ∃ T, T = Byt.digs 10 0 (s.data.toList.drop 0) := ⟨_, rfl⟩
  rw [← hT] at hp
  have HP := hide1 hp
  have HT : Hid (Byt.digs 10 0 (s.data.toList.drop 0) = T) := hT.symm
  clear hT hp hlen
  go_enter Tryz.func270, Tryz.ntmps270
  go_wp2
  go_loop [6, 7] (fun a d => ∃ i acc : Nat, i ≤ s.size ∧ a = .int .i64 acc ∧ d = .int .i64 i ∧ Hid (acc + 1 ≤ 10 ^ i) ∧ Hid (Byt.digs 10 acc (s.data.toList.drop i) = T)) (fun _ d => s.size - (intOf d).toNat)
  case atStart => exact ⟨0, 0, by omega, rfl, rfl, (by decide : 0 + 1 ≤ 10 ^ 0), HT⟩
  case round =>
    obtain ⟨i, acc, hi0, rfl, rfl, hac, hh⟩ := hrel
    have ba : acc ≤ 10000000000 := by
      have h1 := hac.out
      have h2 : 10 ^ i ≤ 10 ^ 10 := Nat.pow_le_pow_right (by decide) (by omega)
      have h3 : ((10 : Nat) ^ 10) = 10000000000 := by decide
      omega
    by_cases hi : i < s.size
    · go_wp2_with fail
      refine (u_hex s[i] _).mono ?_
      rintro e w' ⟨rfl, rfl⟩
      obtain ⟨d, hd⟩ : ∃ d, d = Byt.hexv s[i] := ⟨_, rfl⟩
      rw [← hd]
      have HD := hide1 hd
      clear hd
      by_cases d16 : d = 16
      · have hn := hide1 (digs_miss hi (by rw [← HD.out]; omega) hh)
        rw [if_pos d16]
        clear hh
        go_wp2
        go_ret2
        exact ⟨⟨none, (HP.out.trans hn.out : _ = _), by simp, rfl⟩, rfl⟩
      rw [if_neg d16]
      by_cases hlt : 10 ≤ d
      · have hn := hide1 (digs_miss hi (by rw [← HD.out]; exact hlt) hh)
        clear hh
        go_wp2
        go_ret2
        exact ⟨⟨none, (HP.out.trans hn.out : _ = _), by simp, rfl⟩, rfl⟩
      · have hn := digs_hit hi (by rw [← HD.out]; omega) hh
        rw [← HD.out] at hn
        clear hh
        have hac' : Hid (acc * 10 + d + 1 ≤ 10 ^ (i + 1)) := by
          show _ ≤ _
          have h1 := hac.out
          have h2 : (acc + 1) * 10 ≤ 10 ^ i * 10 := Nat.mul_le_mul_right _ h1
          rw [Nat.pow_succ]; omega
        clear hac
        go_wp2
        go_round
        case rel => exact ⟨i + 1, acc * 10 + d, by omega, by go_num, by go_num, hac', hn⟩
        case measure => simp [intOf]; omega
    · obtain rfl : i = s.size := by omega
      have hd : s.data.toList.drop s.size = [] := List.drop_eq_nil_of_le (by simp)
      rw [hd] at hh
      have hT : Hid (some acc = T) := hh
      clear hh hd
      go_wp2
      go_ret2
      exact ⟨⟨some acc, (HP.out.trans hT.out.symm : _ = _), (by show acc ≤ 10000000000; omega), rfl⟩, rfl⟩
set_option maxHeartbeats 1000000 in
theorem u_plain_nox (s : ByteArray) (hs : s.size ≤ 5000) (h2 : 2 ≤ s.size) (h0 : ((s[0].toNat : Int) == 48) = true) (h1 : ((s[1].toNat : Int) == 120) = false) (w : World) :
    Calls Tryz.prog 270 #[.string s] w fun e w' => (∃ o : Option Nat, Hid (Byt.plain s.data.toList = o) ∧ o.getD 0 ≤ 10000000000 ∧ e = .returned (.tuple #[.int .i64 (o.getD 0 : Nat), .bool o.isSome])) ∧ w' = w := by
  have hp := plain_decR (s := s) (.inr (.inr ⟨h2, h1⟩))
  have hlen : s.data.toList.length = s.size := by simp
  by_cases c1 : s.size < 1
  · omega
  by_cases c2 : 10 < s.size
  · have HP := hide1 (hp.trans (show Byt.rdig 10 10 s.data.toList = none by unfold Byt.rdig; rw [if_pos (by omega)]))
    clear hp
    go_enter Tryz.func270, Tryz.ntmps270
    go_wp2
    go_ret2
    exact ⟨⟨none, HP, by simp, rfl⟩, rfl⟩
  replace hp := hp.trans (show Byt.rdig 10 10 s.data.toList = Byt.digs 10 0 (s.data.toList.drop 0) by unfold Byt.rdig; rw [if_neg (by omega)]; rfl)
  obtain ⟨T, hT⟩ : ∃ T, T = Byt.digs 10 0 (s.data.toList.drop 0) := ⟨_, rfl⟩
  rw [← hT] at hp
  have HP := hide1 hp
  have HT : Hid (Byt.digs 10 0 (s.data.toList.drop 0) = T) := hT.symm
  clear hT hp hlen
  go_enter Tryz.func270, Tryz.ntmps270
  go_wp2
  go_loop [6, 7] (fun a d => ∃ i acc : Nat, i ≤ s.size ∧ a = .int .i64 acc ∧ d = .int .i64 i ∧ Hid (acc + 1 ≤ 10 ^ i) ∧ Hid (Byt.digs 10 acc (s.data.toList.drop i) = T)) (fun _ d => s.size - (intOf d).toNat)
  case atStart => exact ⟨0, 0, by omega, rfl, rfl, (by decide : 0 + 1 ≤ 10 ^ 0), HT⟩
  case round =>
    obtain ⟨i, acc, hi0, rfl, rfl, hac, hh⟩ := hrel
    have ba : acc ≤ 10000000000 := by
      have h1 := hac.out
      have h2 : 10 ^ i ≤ 10 ^ 10 := Nat.pow_le_pow_right (by decide) (by omega)
      have h3 : ((10 : Nat) ^ 10) = 10000000000 := by decide
      omega
    by_cases hi : i < s.size
    · go_wp2_with fail
      refine (u_hex s[i] _).mono ?_
      rintro e w' ⟨rfl, rfl⟩
      obtain ⟨d, hd⟩ : ∃ d, d = Byt.hexv s[i] := ⟨_, rfl⟩
      rw [← hd]
      have HD := hide1 hd
      clear hd
      by_cases d16 : d = 16
      · have hn := hide1 (digs_miss hi (by rw [← HD.out]; omega) hh)
        rw [if_pos d16]
        clear hh
        go_wp2
        go_ret2
        exact ⟨⟨none, (HP.out.trans hn.out : _ = _), by simp, rfl⟩, rfl⟩
      rw [if_neg d16]
      by_cases hlt : 10 ≤ d
      · have hn := hide1 (digs_miss hi (by rw [← HD.out]; exact hlt) hh)
        clear hh
        go_wp2
        go_ret2
        exact ⟨⟨none, (HP.out.trans hn.out : _ = _), by simp, rfl⟩, rfl⟩
      · have hn := digs_hit hi (by rw [← HD.out]; omega) hh
        rw [← HD.out] at hn
        clear hh
        have hac' : Hid (acc * 10 + d + 1 ≤ 10 ^ (i + 1)) := by
          show _ ≤ _
          have h1 := hac.out
          have h2 : (acc + 1) * 10 ≤ 10 ^ i * 10 := Nat.mul_le_mul_right _ h1
          rw [Nat.pow_succ]; omega
        clear hac
        go_wp2
        go_round
        case rel => exact ⟨i + 1, acc * 10 + d, by omega, by go_num, by go_num, hac', hn⟩
        case measure => simp [intOf]; omega
    · obtain rfl : i = s.size := by omega
      have hd : s.data.toList.drop s.size = [] := List.drop_eq_nil_of_le (by simp)
      rw [hd] at hh
      have hT : Hid (some acc = T) := hh
      clear hh hd
      go_wp2
      go_ret2
      exact ⟨⟨some acc, (HP.out.trans hT.out.symm : _ = _), (by show acc ≤ 10000000000; omega), rfl⟩, rfl⟩
set_option maxHeartbeats 1000000 in
theorem u_plain_hex (s : ByteArray) (hs : s.size ≤ 5000) (h2 : 2 ≤ s.size) (h0 : ((s[0].toNat : Int) == 48) = true) (h1 : ((s[1].toNat : Int) == 120) = true) (S : ByteArray) (hS : Hid (S = s.extract 2 s.size)) (hsl : ∀ w, (Instr.slice 9 (.string s) (some (.int .i64 2)) none none).run Tryz.prog w = .ok (.string S) w) (w : World) :
    Calls Tryz.prog 270 #[.string s] w fun e w' => (∃ o : Option Nat, Hid (Byt.plain s.data.toList = o) ∧ o.getD 0 ≤ 10000000000 ∧ e = .returned (.tuple #[.int .i64 (o.getD 0 : Nat), .bool o.isSome])) ∧ w' = w := by
  have hp := plain_hexR h2 h0 h1
  rw [← hS.out] at hp
  have hlen : S.data.toList.length = S.size := by simp
  by_cases c1 : S.size < 1
  · have HP := hide1 (hp.trans (show Byt.rdig 16 8 S.data.toList = none by unfold Byt.rdig; rw [if_pos (by omega)]))
    clear hp
    go_enter Tryz.func270, Tryz.ntmps270
    go_wp2
    go_ret2
    exact ⟨⟨none, HP, by simp, rfl⟩, rfl⟩
  by_cases c2 : 8 < S.size
  · have HP := hide1 (hp.trans (show Byt.rdig 16 8 S.data.toList = none by unfold Byt.rdig; rw [if_pos (by omega)]))
    clear hp
    go_enter Tryz.func270, Tryz.ntmps270
    go_wp2
    go_ret2
    exact ⟨⟨none, HP, by simp, rfl⟩, rfl⟩
  replace hp := hp.trans (show Byt.rdig 16 8 S.data.toList = Byt.digs 16 0 (S.data.toList.drop 0) by unfold Byt.rdig; rw [if_neg (by omega)]; rfl)
  obtain ⟨T, hT⟩ : ∃ T, T = Byt.digs 16 0 (S.data.toList.drop 0) := ⟨_, rfl⟩
  rw [← hT] at hp
  have HP := hide1 hp
  have HT : Hid (Byt.digs 16 0 (S.data.toList.drop 0) = T) := hT.symm
  clear hT hp hlen
  go_enter Tryz.func270, Tryz.ntmps270
  go_wp2
  go_loop [6, 7] (fun a d => ∃ i acc : Nat, i ≤ S.size ∧ a = .int .i64 acc ∧ d = .int .i64 i ∧ Hid (acc + 1 ≤ 16 ^ i) ∧ Hid (Byt.digs 16 acc (S.data.toList.drop i) = T)) (fun _ d => S.size - (intOf d).toNat)
  case atStart => exact ⟨0, 0, by omega, rfl, rfl, (by decide : 0 + 1 ≤ 16 ^ 0), HT⟩
  case round =>
    obtain ⟨i, acc, hi0, rfl, rfl, hac, hh⟩ := hrel
    have ba : acc ≤ 4294967296 := by
      have h1 := hac.out
      have h2 : 16 ^ i ≤ 16 ^ 8 := Nat.pow_le_pow_right (by decide) (by omega)
      have h3 : ((16 : Nat) ^ 8) = 4294967296 := by decide
      omega
    by_cases hi : i < S.size
    · go_wp2_with fail
      refine (u_hex S[i] _).mono ?_
      rintro e w' ⟨rfl, rfl⟩
      obtain ⟨d, hd⟩ : ∃ d, d = Byt.hexv S[i] := ⟨_, rfl⟩
      rw [← hd]
      have HD := hide1 hd
      clear hd
      by_cases d16 : d = 16
      · have hn := hide1 (digs_miss hi (by rw [← HD.out]; omega) hh)
        rw [if_pos d16]
        clear hh
        go_wp2
        go_ret2
        exact ⟨⟨none, (HP.out.trans hn.out : _ = _), by simp, rfl⟩, rfl⟩
      rw [if_neg d16]
      by_cases hlt : 16 ≤ d
      · have hn := hide1 (digs_miss hi (by rw [← HD.out]; exact hlt) hh)
        clear hh
        go_wp2
        go_ret2
        exact ⟨⟨none, (HP.out.trans hn.out : _ = _), by simp, rfl⟩, rfl⟩
      · have hn := digs_hit hi (by rw [← HD.out]; omega) hh
        rw [← HD.out] at hn
        clear hh
        have hac' : Hid (acc * 16 + d + 1 ≤ 16 ^ (i + 1)) := by
          show _ ≤ _
          have h1 := hac.out
          have h2 : (acc + 1) * 16 ≤ 16 ^ i * 16 := Nat.mul_le_mul_right _ h1
          rw [Nat.pow_succ]; omega
        clear hac
        go_wp2
        go_round
        case rel => exact ⟨i + 1, acc * 16 + d, by omega, by go_num, by go_num, hac', hn⟩
        case measure => simp [intOf]; omega
    · obtain rfl : i = S.size := by omega
      have hd : S.data.toList.drop S.size = [] := List.drop_eq_nil_of_le (by simp)
      rw [hd] at hh
      have hT : Hid (some acc = T) := hh
      clear hh hd
      go_wp2
      go_ret2
      exact ⟨⟨some acc, (HP.out.trans hT.out.symm : _ = _), (by show acc ≤ 10000000000; omega), rfl⟩, rfl⟩
theorem u_plain (s : ByteArray) (hs : s.size ≤ 5000) (w : World) :
    Calls Tryz.prog 270 #[.string s] w fun e w' => (∃ o : Option Nat, Hid (Byt.plain s.data.toList = o) ∧ o.getD 0 ≤ 10000000000 ∧ e = .returned (.tuple #[.int .i64 (o.getD 0 : Nat), .bool o.isSome])) ∧ w' = w := by
  by_cases h2 : s.size < 2
  · exact u_plain_short s hs h2 w
  · have h2' : 2 ≤ s.size := by omega
    cases h0 : ((s[0].toNat : Int) == 48)
    · exact u_plain_no0 s hs h2' h0 w
    · cases h1 : ((s[1].toNat : Int) == 120)
      · exact u_plain_nox s hs h2' h0 h1 w
      · exact u_plain_hex s hs h2' h0 h1 (s.extract 2 s.size) rfl (fun w => by
          rw [run_slice_string_from_if w 9 s .i64 2 Tryz.underlying9, if_pos (by omega)]; rfl) w
end Go.Proofs.YthfofjkfbhahoaaGreatDoor
end
section
namespace Go.Proofs.YthfofjkfbhahoaaGreatDoor
open Go.RowKit
set_option linter.unusedSimpArgs false
set_option maxHeartbeats 1000000 in
theorem u_number (s : ByteArray) (hs : s.size ≤ 5000) (w : World) :
    Calls Tryz.prog 247 #[.string s] w fun e w' => e = .returned (.tuple #[.int .i64 (Byt.number s.data.toList).1, .bool (Byt.number s.data.toList).2]) ∧ w' = w := by
  by_cases c1 : 0 < s.size
  · cases h0 : ((s[0].toNat : Int) == 45)
    · have HP := hide1 (number_pos (.inr ⟨c1, h0⟩))
      go_enter Tryz.func247, Tryz.ntmps247
      go_wp2_with fail
      refine (u_plain s hs _).mono ?_
      rintro e w' ⟨⟨o, ho, hb, rfl⟩, rfl⟩
      rw [ho.out] at HP
      go_wp2
      go_ret2
      exact ⟨by rw [HP.out]; rfl, rfl⟩
    · have HP := hide1 (number_neg c1 h0)
      go_enter Tryz.func247, Tryz.ntmps247
      go_wp2_with fail
      refine (u_plain (s.extract 1 s.size) (by simp; omega) _).mono ?_
      rintro e w' ⟨⟨o, ho, hb, rfl⟩, rfl⟩
      rw [ho.out] at HP
      go_wp2
      go_ret2
      exact ⟨by rw [HP.out]; rfl, rfl⟩
  · have HP := hide1 (number_pos (.inl c1))
    have c2 : decide ((0 : Int) < (s.size : Int)) = false := by rw [decide_eq_false_iff_not]; omega
    go_enter Tryz.func247, Tryz.ntmps247
    go_wp2_with fail
    refine (u_plain s hs _).mono ?_
    rintro e w' ⟨⟨o, ho, hb, rfl⟩, rfl⟩
    rw [ho.out] at HP
    go_wp2
    go_ret2
    exact ⟨by rw [HP.out]; rfl, rfl⟩
theorem nmc_of (c : UInt8) : (Byt.inn c && !((c.toNat : Int) == 45)) = Byt.nmc c := by
  rw [inn_of]
  cases h : ((c.toNat : Int) == 45)
  · simp
  · rw [beq_iff_eq] at h
    have : Byt.nmc c = false := by simp [Byt.nmc, Byt.letr, Byt.dig]; omega
    simp [this]
theorem name_letr (c : UInt8) (l : List UInt8) : Byt.isName (c :: l) = (Byt.letr c && (c :: l).all Byt.nmc) := by
  simp only [Byt.isName, List.all_cons, Byt.nmc]
  cases hl : Byt.letr c <;> cases hd : Byt.dig c <;> simp
  simp [Byt.letr, Byt.dig] at hl hd
  omega
set_option maxHeartbeats 1000000 in
theorem u_isName (s : ByteArray) (hs : s.size ≤ 5000) (w : World) :
    Calls Tryz.prog 170 #[.string s] w fun e w' => e = .returned (.bool (Byt.isName s.data.toList)) ∧ w' = w := by
  by_cases h0 : s.size = 0
  · have hl : s.data.toList = [] := List.eq_nil_of_length_eq_zero (by simpa using h0)
    have he : ((s.size : Int) == 0) = true := by rw [beq_iff_eq]; omega
    rw [show Byt.isName s.data.toList = false by rw [hl]; rfl]
    clear hl h0
    go_enter Tryz.func170, Tryz.ntmps170
    go_wp2
    go_ret
    exact ⟨rfl, rfl⟩
  · have hp : 0 < s.size := by omega
    have he : ((s.size : Int) == 0) = false := by rw [beq_eq_false_iff_ne]; omega
    have hn : Byt.isName s.data.toList = (Byt.letr s[0] && (s.data.toList.drop 0).all Byt.nmc) := by
      have h := dropb s 0 hp
      rw [List.drop_zero] at h
      conv => lhs; rw [h]
      rw [name_letr, ← h]; rfl
    rw [hn]
    clear hn h0
    cases hd : Byt.letr s[0]
    · go_enter Tryz.func170, Tryz.ntmps170
      go_wp2_with (go_at_call 223; refine (u_letter _ _).mono ?_; rintro e w' ⟨rfl, rfl⟩)
      go_ret
      exact ⟨rfl, rfl⟩
    · rw [Bool.true_and]
      obtain ⟨T, hT⟩ : ∃ T, T = (s.data.toList.drop 0).all Byt.nmc := ⟨_, rfl⟩
      rw [← hT]
      have HT := hide1 hT
      clear hT
      go_enter Tryz.func170, Tryz.ntmps170
      go_wp2_with (go_at_call 223; refine (u_letter _ _).mono ?_; rintro e w' ⟨rfl, rfl⟩)
      go_loop [4] (fun d => ∃ i : Nat, i ≤ s.size ∧ d = .int .i64 i ∧ Hid (T = (s.data.toList.drop i).all Byt.nmc)) (fun d => s.size - (intOf d).toNat)
      case atStart => exact ⟨0, by omega, rfl, HT⟩
      case round =>
        obtain ⟨i, hi0, rfl, hh⟩ := hrel
        by_cases hi : i < s.size
        · rw [dropb s i hi, show (s[i] :: s.data.toList.drop (i + 1)).all Byt.nmc = (Byt.nmc s[i] && (s.data.toList.drop (i + 1)).all Byt.nmc) from rfl, ← nmc_of] at hh
          cases hn : Byt.inn s[i]
          · rw [hn, Bool.false_and, Bool.false_and] at hh
            go_wp2_with (go_at_call 222; refine (u_inner _ _).mono ?_; rintro e w' ⟨rfl, rfl⟩)
            go_ret
            exact ⟨by rw [hh.out]; rfl, rfl⟩
          · cases h45 : ((s[i].toNat : Int) == 45)
            · rw [hn, h45, Bool.not_false, Bool.true_and, Bool.true_and] at hh
              go_wp2_with (go_at_call 222; refine (u_inner _ _).mono ?_; rintro e w' ⟨rfl, rfl⟩)
              go_round
              case rel => exact ⟨i + 1, by omega, by go_num, hh⟩
              case measure => simp [intOf]; omega
            · rw [hn, h45, Bool.not_true, Bool.true_and, Bool.false_and] at hh
              go_wp2_with (go_at_call 222; refine (u_inner _ _).mono ?_; rintro e w' ⟨rfl, rfl⟩)
              go_ret
              exact ⟨by rw [hh.out]; rfl, rfl⟩
        · obtain rfl : i = s.size := by omega
          have hdr : s.data.toList.drop s.size = [] := List.drop_eq_nil_of_le (by simp)
          rw [hdr] at hh
          have hT : Hid (T = true) := hh
          clear hh hdr
          go_wp2
          go_ret
          exact ⟨by rw [hT.out]; rfl, rfl⟩
end Go.Proofs.YthfofjkfbhahoaaGreatDoor
end
section
namespace Go.Proofs.YthfofjkfbhahoaaGreatDoor
open Go.RowKit
set_option linter.unusedSimpArgs false
namespace Byt
/-- the tokens of a line: f is as much as its length -/
def tok : Nat → List UInt8 → List (List UInt8)
  | 0, _ => []
  | _ + 1, [] => []
  | f + 1, c :: l => if c.toNat = 35 then [] else if 0 < rowEnd (c :: l) then (c :: l).take (rowEnd (c :: l)) :: tok f ((c :: l).drop (rowEnd (c :: l))) else if blank c = true then tok f l else [c] :: tok f l
def strV (t : List UInt8) : Value := .string ⟨t.toArray⟩
end Byt
theorem tok_more : ∀ (f g : Nat) (l : List UInt8), l.length ≤ f → l.length ≤ g → Byt.tok f l = Byt.tok g l
  | 0, 0, _, _, _ => rfl
  | 0, g + 1, [], _, _ => rfl
  | f + 1, 0, [], _, _ => rfl
  | 0, _ + 1, c :: l, h, _ => by simp at h
  | _ + 1, 0, c :: l, _, h => by simp at h
  | f + 1, g + 1, [], _, _ => rfl
  | f + 1, g + 1, c :: l, h1, h2 => by
    simp only [List.length_cons] at h1 h2
    simp only [Byt.tok]
    by_cases c1 : c.toNat = 35
    · rw [if_pos c1, if_pos c1]
    · rw [if_neg c1, if_neg c1]
      by_cases c2 : 0 < Byt.rowEnd (c :: l)
      · rw [if_pos c2, if_pos c2, tok_more f g _ (by simp; omega) (by simp; omega)]
      · rw [if_neg c2, if_neg c2, tok_more f g l (by omega) (by omega)]
theorem ext_str (s : ByteArray) (a b : Nat) : Value.string (s.extract a b) = Byt.strV ((s.data.toList.drop a).take (b - a)) := by
  unfold Byt.strV
  congr 1
  have h := Lib.extract_data s a b
  cases hd : s.extract a b with
  | mk d =>
    rw [hd] at h
    simp only at h
    rw [← h]
theorem Tryz.info9 : (Tryz.prog.info? 9).map (fun i => (i.zero, i.size, i.bytes)) = some (some (.string ⟨#[]⟩), 1, 16) := by kernel_rfl
theorem slice_mid (s : ByteArray) (a b : Nat) (h1 : a ≤ b) (h2 : b ≤ s.size) (w : World) : (Instr.slice 9 (.string s) (some (.int .i64 (a : Int))) (some (.int .i64 (b : Int))) none).run Tryz.prog w = .ok (.string (s.extract a b)) w := by
  rw [run_slice_string w 9 s .i64 .i64 a b Tryz.underlying9 (by omega) (by omega) (by omega)]
  simp
set_option maxHeartbeats 2000000 in
theorem a_tokens (s : ByteArray) (hs : s.size ≤ 5000) (w : World) :
    Calls Tryz.prog 145 #[.string s] w fun e w' => ∃ v, e = .returned v ∧ v ≠ .slice none 0 0 ∧ w'.ownsRow w.heap.size 9 1 v (Byt.tok s.size s.data.toList).length ((Byt.tok s.size s.data.toList).map Byt.strV) ∧ Below w.heap.size w w' := by
  have hmk : ∀ w, (Instr.makeSlice 136 (.int .i64 0) (.int .i64 0)).run Tryz.prog w = .ok (.slice (some ⟨w.heap.size, 0, none⟩) 0 0) (w.alloc (.cells #[] 9)) := fun _ => by kernel_rfl
  obtain ⟨i0, hi, hz0, hz1, hz2⟩ := info_parts Tryz.info9
  obtain ⟨T, hT⟩ : ∃ T, T = Byt.tok s.size s.data.toList := ⟨_, rfl⟩
  rw [← hT]
  have HT := hide1 hT
  clear hT
  go_enter Tryz.func145, Tryz.ntmps145
  go_wp2
  go_loopw [3, 4] (fun v d wr => ∃ (a : Nat) (p : List (List UInt8)), a ≤ s.size ∧ p.length ≤ a ∧ d = .int .i64 a ∧ v ≠ .slice none 0 0 ∧ wr.ownsRow w.heap.size 9 1 v p.length (p.map Byt.strV) ∧ Below w.heap.size w wr ∧ Hid (T = p ++ Byt.tok (s.size - a) (s.data.toList.drop a))) (fun _ d _ => s.size - (intOf d).toNat)
  case atStart => exact ⟨0, [], by omega, by simp, rfl, by simp, World.ownsRow_made w _ 0 (Nat.le_refl _) (by unfold maxLen; omega) rfl, (Below.refl _ _).alloc (Nat.le_refl _) _, HT⟩
  case round =>
    obtain ⟨a, p, ha, hpl, rfl, hnn, hown, hb, hh⟩ := hrel
    by_cases hlt : a < s.size
    · have hdr := dropb s a hlt
      have hf : s.size - a = (s.size - a - 1) + 1 := by omega
      have hbs := hb.size
      have hrow : ∀ j, u3.ownBlock = some j → w.heap.size ≤ j := fun j hj => (hown.lt j hj).1
      by_cases c35 : s[a].toNat = 35
      · have c35' : ((s[a].toNat : Int) != 35) = false := by simp; omega
        have hT : Hid (T = p) := (by rw [hh.out, hdr, hf]; simp only [Byt.tok]; rw [if_pos c35]; simp : T = p)
        clear hh hdr hf c35
        go_wp2
        go_ret
        exact ⟨_, rfl, hnn, by rw [hT.out]; exact hown, hb⟩
      · have c35' : ((s[a].toNat : Int) != 35) = true := by simp; omega
        have hre : Byt.rowEnd (s.data.toList.drop a) ≤ s.size - a := by have := rowEnd_le (s.data.toList.drop a); simp at this; exact this
        obtain ⟨r, hr⟩ : ∃ r, r = Byt.rowEnd (s.data.toList.drop a) := ⟨_, rfl⟩
        rw [← hr] at hre
        have HR := hide1 hr
        have hstep : T = p ++ (if 0 < r then (s.data.toList.drop a).take r :: Byt.tok (s.size - a - 1) ((s.data.toList.drop a).drop r) else if Byt.blank s[a] = true then Byt.tok (s.size - a - 1) (s.data.toList.drop (a + 1)) else [s[a]] :: Byt.tok (s.size - a - 1) (s.data.toList.drop (a + 1))) := by
          rw [hh.out, hr, hf, hdr]; simp only [Byt.tok]; rw [if_neg c35]; simp only [Nat.add_sub_cancel]
        clear hr hh hdr hf c35
        have HS := hide1 hstep
        clear hstep
        go_wp2_with fail
        refine (a_rowEnd s hs a (by omega) _).mono ?_
        rintro e w' ⟨rfl, rfl⟩
        rw [← HR.out]
        clear HR
        obtain ⟨E, hE⟩ : ∃ E, E = a + r := ⟨_, rfl⟩
        rw [← hE]
        have HE := hide1 hE
        have hE1 : E ≤ s.size := by omega
        by_cases hr0 : 0 < r
        · have hE2 : a < E := by omega
          clear hE
          have hv : Hid (T = (p ++ [(s.data.toList.drop a).take r]) ++ Byt.tok (s.size - E) (s.data.toList.drop E)) := by
            show T = _
            rw [HE.out, HS.out, if_pos hr0, List.drop_drop, tok_more (s.size - a - 1) (s.size - (a + r)) _ (by simp; omega) (by simp)]
            simp
          clear HS hre hr0
          obtain ⟨X, hX⟩ : ∃ X, X = s.extract a E := ⟨_, rfl⟩
          have hsl : ∀ w, (Instr.slice 9 (.string s) (some (.int .i64 (a : Int))) (some (.int .i64 (E : Int))) none).run Tryz.prog w = .ok (.string X) w := by
            intro w; rw [hX]; exact slice_mid s a E (by omega) hE1 w
          have HX := hide1 hX
          clear hX
          go_wp2_with (at_builtin; refine wpList_append_own _ rfl (.tmp 34) (.tmp 39) 136 rfl w.heap.size 9 i0 (.string ⟨#[]⟩) 1 16 Tryz.underlying136 hi hz0 hz1 hz2 rfl (by decide) _ _ _ rfl (hown.alloc _) ⟨w'.heap.size, 0, none⟩ 1 1 [.string X] rfl rfl ?c1 ?c2 ?c3 ?c4 ?c5 ?_)
          case c1 =>
            intro j u hj
            match j, hj with
            | 0, hj => simp at hj; subst hj; simp [Addr.add]
          case c2 => intro u hu; simp at hu; subst hu; rfl
          case c3 => unfold maxLen; omega
          case c4 => omega
          case c5 => simp; omega
          intro v' w1 hown' hgrow hnil
          have hnn' : v' ≠ .slice none 0 0 := fun h => hnil h
          clear hnil
          have hrow2 : Below w.heap.size w w1 := (hb.alloc hbs _).grown hgrow (by simp; omega) hrow
          clear hown hgrow
          rw [HX.out, ext_str, show E - a = r by have := HE.out; omega] at hown'
          go_wp2
          go_roundw
          case rel => exact ⟨E, p ++ [(s.data.toList.drop a).take r], by omega, by simp; omega, by go_num, hnn', by simpa using hown', hrow2, hv⟩
          case measure => simp [intOf]; omega
        · obtain rfl : r = 0 := by omega
          have hEa : E = a := by omega
          rw [hEa]
          clear hE HE hE1 hEa
          rw [if_neg (by omega)] at HS
          cases hbl : Byt.blank s[a]
          · rw [hbl, if_neg (by decide)] at HS
            have hv : Hid (T = (p ++ [[s[a]]]) ++ Byt.tok (s.size - (a + 1)) (s.data.toList.drop (a + 1))) := by
              show T = _
              rw [HS.out, show s.size - (a + 1) = s.size - a - 1 by omega]; simp
            clear HS
            have h1 : (s.data.toList.drop a).take 1 = [s[a]] := by rw [dropb s a hlt]; rfl
            have H1 := hide1 h1
            clear h1
            obtain ⟨X, hX⟩ : ∃ X, X = s.extract a (a + 1) := ⟨_, rfl⟩
            have hsl : ∀ w, (Instr.slice 9 (.string s) (some (.int .i64 (a : Int))) (some (.int .i64 ((a : Int) + 1))) none).run Tryz.prog w = .ok (.string X) w := by
              intro w; rw [hX]; exact slice_mid s a (a + 1) (by omega) (by omega) w
            have HX := hide1 hX
            clear hX
            go_wp2_with (first | (go_at_call 194; refine (a_isBlank _ _).mono ?_; rintro e w2 ⟨rfl, rfl⟩) | (at_builtin; refine wpList_append_own _ rfl (.tmp 20) (.tmp 26) 136 rfl w.heap.size 9 i0 (.string ⟨#[]⟩) 1 16 Tryz.underlying136 hi hz0 hz1 hz2 rfl (by decide) _ _ _ rfl (hown.alloc _) ⟨_, 0, none⟩ 1 1 [.string X] rfl rfl ?c1 ?c2 ?c3 ?c4 ?c5 ?_))
            case c1 =>
              intro j u hj
              match j, hj with
              | 0, hj => simp at hj; subst hj; simp [Addr.add]
            case c2 => intro u hu; simp at hu; subst hu; rfl
            case c3 => unfold maxLen; omega
            case c4 => omega
            case c5 => simp; omega
            intro v' w1 hown' hgrow hnil
            have hnn' : v' ≠ .slice none 0 0 := fun h => hnil h
            clear hnil
            have hrow2 : Below w.heap.size w w1 := (hb.alloc hbs _).grown hgrow (by simp; omega) hrow
            clear hown hgrow
            rw [HX.out, ext_str, show a + 1 - a = 1 by omega, H1.out] at hown'
            go_wp2
            go_roundw
            case rel => exact ⟨a + 1, p ++ [[s[a]]], by omega, by simp; omega, by go_num, hnn', by simpa using hown', hrow2, hv⟩
            case measure => simp [intOf]; omega
          · rw [hbl, if_pos rfl] at HS
            have hv : Hid (T = p ++ Byt.tok (s.size - (a + 1)) (s.data.toList.drop (a + 1))) := by
              show T = _
              rw [HS.out, show s.size - (a + 1) = s.size - a - 1 by omega]
            clear HS
            go_wp2_with (go_at_call 194; refine (a_isBlank _ _).mono ?_; rintro e w2 ⟨rfl, rfl⟩)
            go_roundw
            case rel => exact ⟨a + 1, p, by omega, by omega, by go_num, hnn, hown, hb, hv⟩
            case measure => simp [intOf]; omega
    · have hlt' : decide ((a : Int) < (s.size : Int)) = false := by simp; omega
      have hT : Hid (T = p) := (by rw [hh.out, show s.size - a = 0 by omega]; simp [Byt.tok] : T = p)
      clear hh
      go_wp2
      go_ret
      exact ⟨_, rfl, hnn, by rw [hT.out]; exact hown, hb⟩
end Go.Proofs.YthfofjkfbhahoaaGreatDoor
end
