import Derived.Test.YthfofjkfbhahoaaGreatDoorVH
import Derived.Shelf.Strconv.Itoa0
import Derived.Shelf.Strconv.Itoa1
import Derived.Shelf.LaysM
import Derived.Shelf.Strconv.Itoa2
import Derived.Shelf.Strconv.Itoa3
import Derived.Laws.Concat
import Derived.Lib.ItoaLen
import Derived.Deep.CutRange
namespace Go.Proofs.YthfofjkfbhahoaaGreatDoor
section
open Go.Shelf
def Tryz.laysM246_ren : Go.Shelf.Ren := ⟨fun | 246 => 243 | 283 => 265 | 284 => 266 | 285 => 267 | 286 => 268 | 129 => 289 | 317 => 288 | 318 => 290 | 319 => 291 | 320 => 292 | 337 => 323 | 338 => 324 | n => n, fun | 2 => 2 | 3 => 3 | 9 => 9 | 4 => 4 | 171 => 212 | 0 => 0 | 53 => 213 | 37 => 91 | 5 => 5 | 173 => 216 | 212 => 225 | 51 => 226 | 20 => 20 | 213 => 227 | 46 => 92 | 232 => 240 | 233 => 241 | n => n, fun | 17 => 0 | 18 => 1 | 19 => 2 | n => n⟩
def Tryz.laysM243_ren : Go.Shelf.Ren := ⟨fun | 243 => 219 | 246 => 243 | 283 => 265 | 284 => 266 | 285 => 267 | 286 => 268 | 129 => 289 | 317 => 288 | 318 => 290 | 319 => 291 | 320 => 292 | 337 => 323 | 338 => 324 | n => n, fun | 3 => 3 | 9 => 9 | 2 => 2 | 4 => 4 | 171 => 212 | 0 => 0 | 53 => 213 | 37 => 91 | 5 => 5 | 173 => 216 | 212 => 225 | 51 => 226 | 20 => 20 | 213 => 227 | 46 => 92 | 232 => 240 | 233 => 241 | n => n, fun | 17 => 0 | 18 => 1 | 19 => 2 | n => n⟩
def Tryz.laysM171_ren : Go.Shelf.Ren := ⟨fun | 171 => 164 | 243 => 219 | 246 => 243 | 283 => 265 | 284 => 266 | 285 => 267 | 286 => 268 | 129 => 289 | 317 => 288 | 318 => 290 | 319 => 291 | 320 => 292 | 337 => 323 | 338 => 324 | n => n, fun | 3 => 3 | 9 => 9 | 2 => 2 | 4 => 4 | 171 => 212 | 0 => 0 | 53 => 213 | 37 => 91 | 5 => 5 | 173 => 216 | 212 => 225 | 51 => 226 | 20 => 20 | 213 => 227 | 46 => 92 | 232 => 240 | 233 => 241 | n => n, fun | 17 => 0 | 18 => 1 | 19 => 2 | n => n⟩
theorem Tryz.laysM171 : Go.Proofs.LaysM.n171 Tryz.prog Tryz.laysM171_ren := {
  mixed := by kernel_rfl
  f129 := Tryz.func289.trans (congrArg some (by kernel_rfl))
  f171 := Tryz.func164.trans (congrArg some (by kernel_rfl))
  f243 := Tryz.func219.trans (congrArg some (by kernel_rfl))
  f246 := Tryz.func243.trans (congrArg some (by kernel_rfl))
  f283 := Tryz.func265.trans (congrArg some (by kernel_rfl))
  f284 := Tryz.func266.trans (congrArg some (by kernel_rfl))
  f285 := Tryz.func267.trans (congrArg some (by kernel_rfl))
  f286 := Tryz.func268.trans (congrArg some (by kernel_rfl))
  f317 := Tryz.func288.trans (congrArg some (by kernel_rfl))
  f318 := Tryz.func290.trans (congrArg some (by kernel_rfl))
  f319 := Tryz.func291.trans (congrArg some (by kernel_rfl))
  f320 := Tryz.func292.trans (congrArg some (by kernel_rfl))
  f337 := Tryz.func323.trans (congrArg some (by kernel_rfl))
  f338 := Tryz.func324.trans (congrArg some (by kernel_rfl))
  t0 := Tryz.underlying0
  a0 := Tryz.isAgg0
  z0 := Tryz.sizeOf0
  v0 := Tryz.zeroValue0
  t2 := Tryz.underlying2
  a2 := Tryz.isAgg2
  z2 := Tryz.sizeOf2
  v2 := Tryz.zeroValue2
  t3 := Tryz.underlying3
  a3 := Tryz.isAgg3
  z3 := Tryz.sizeOf3
  v3 := Tryz.zeroValue3
  t4 := Tryz.underlying4
  a4 := Tryz.isAgg4
  z4 := Tryz.sizeOf4
  v4 := Tryz.zeroValue4
  t5 := Tryz.underlying5
  a5 := Tryz.isAgg5
  z5 := Tryz.sizeOf5
  v5 := Tryz.zeroValue5
  t9 := Tryz.underlying9
  a9 := Tryz.isAgg9
  z9 := Tryz.sizeOf9
  v9 := Tryz.zeroValue9
  t20 := Tryz.underlying20
  a20 := Tryz.isAgg20
  z20 := Tryz.sizeOf20
  v20 := Tryz.zeroValue20
  t37 := Tryz.underlying91
  a37 := Tryz.isAgg91
  z37 := Tryz.sizeOf91
  v37 := Tryz.zeroValue91
  t46 := Tryz.underlying92
  a46 := Tryz.isAgg92
  z46 := Tryz.sizeOf92
  v46 := Tryz.zeroValue92
  t51 := Tryz.underlying226
  a51 := Tryz.isAgg226
  z51 := Tryz.sizeOf226
  v51 := Tryz.zeroValue226
  t53 := Tryz.underlying213
  a53 := Tryz.isAgg213
  z53 := Tryz.sizeOf213
  v53 := Tryz.zeroValue213
  t171 := Tryz.underlying212
  a171 := Tryz.isAgg212
  z171 := Tryz.sizeOf212
  v171 := Tryz.zeroValue212
  t173 := Tryz.underlying216
  a173 := Tryz.isAgg216
  z173 := Tryz.sizeOf216
  v173 := Tryz.zeroValue216
  t212 := Tryz.underlying225
  a212 := Tryz.isAgg225
  z212 := Tryz.sizeOf225
  v212 := Tryz.zeroValue225
  t213 := Tryz.underlying227
  a213 := Tryz.isAgg227
  z213 := Tryz.sizeOf227
  t232 := Tryz.underlying240
  a232 := Tryz.isAgg240
  z232 := Tryz.sizeOf240
  v232 := Tryz.zeroValue240
  t233 := Tryz.underlying241
  a233 := Tryz.isAgg241
  z233 := Tryz.sizeOf241
  v233 := Tryz.zeroValue241
  g17 := by kernel_rfl
  g18 := by kernel_rfl
  g19 := by kernel_rfl
  i0 := by kernel_rfl
  i2 := by kernel_rfl
  i3 := by kernel_rfl
  i4 := by kernel_rfl
  i5 := by kernel_rfl
  i9 := by kernel_rfl
  i20 := by kernel_rfl
  i37 := by kernel_rfl
  i46 := by kernel_rfl
  i51 := by kernel_rfl
  i53 := by kernel_rfl
  i171 := by kernel_rfl
  i173 := by kernel_rfl
  i212 := by kernel_rfl
  i232 := by kernel_rfl
  i233 := by kernel_rfl
  m17 := by kernel_rfl
  m18 := by kernel_rfl
  m19 := by kernel_rfl }
open Go.RowKit Go.Sort Go.Lib in
theorem Tryz.strconv_Itoa (n : Int) (h0 : -9223372036854775808 ≤ n) (h1 : n ≤ 9223372036854775807) (w : World) (htab : Lib.TabIs Tryz.prog w "internal/strconv.uint64pow10" .u64 Lib.pow10Tab) :
    Calls Tryz.prog 164 #[.int .i64 n] w fun e w' => e = .returned (.string ⟨(Lib.itoa n).toArray⟩) ∧ ∃ k os, w' = grow (w.drewN k) os := Any.strconv_Itoa Tryz.laysM171 n h0 h1 w htab
def Tryz.lays171_ren : Go.Shelf.Ren := ⟨fun | 171 => 164 | 243 => 219 | 246 => 243 | 283 => 265 | 284 => 266 | 285 => 267 | 286 => 268 | 129 => 289 | 317 => 288 | 318 => 290 | 319 => 291 | 320 => 292 | 337 => 323 | 338 => 324 | n => n, fun | 3 => 3 | 9 => 9 | 2 => 2 | 4 => 4 | 171 => 212 | 0 => 0 | 53 => 213 | 37 => 91 | 5 => 5 | 173 => 216 | 212 => 225 | 51 => 226 | 20 => 20 | 213 => 227 | 46 => 92 | 232 => 240 | 233 => 241 | n => n, fun | 17 => 0 | 18 => 1 | 19 => 2 | n => n⟩
theorem Tryz.lays171 : Go.Proofs.Lays.n171 Tryz.prog Tryz.lays171_ren := {
  mixed := by kernel_rfl
  f129 := Tryz.func289.trans (congrArg some (by kernel_rfl))
  f171 := Tryz.func164.trans (congrArg some (by kernel_rfl))
  f243 := Tryz.func219.trans (congrArg some (by kernel_rfl))
  f246 := Tryz.func243.trans (congrArg some (by kernel_rfl))
  f283 := Tryz.func265.trans (congrArg some (by kernel_rfl))
  f284 := Tryz.func266.trans (congrArg some (by kernel_rfl))
  f285 := Tryz.func267.trans (congrArg some (by kernel_rfl))
  f286 := Tryz.func268.trans (congrArg some (by kernel_rfl))
  f317 := Tryz.func288.trans (congrArg some (by kernel_rfl))
  f318 := Tryz.func290.trans (congrArg some (by kernel_rfl))
  f319 := Tryz.func291.trans (congrArg some (by kernel_rfl))
  f320 := Tryz.func292.trans (congrArg some (by kernel_rfl))
  f337 := Tryz.func323.trans (congrArg some (by kernel_rfl))
  f338 := Tryz.func324.trans (congrArg some (by kernel_rfl))
  t0 := Tryz.underlying0
  a0 := Tryz.isAgg0
  z0 := Tryz.sizeOf0
  v0 := Tryz.zeroValue0
  t2 := Tryz.underlying2
  a2 := Tryz.isAgg2
  z2 := Tryz.sizeOf2
  v2 := Tryz.zeroValue2
  t3 := Tryz.underlying3
  a3 := Tryz.isAgg3
  z3 := Tryz.sizeOf3
  v3 := Tryz.zeroValue3
  t4 := Tryz.underlying4
  a4 := Tryz.isAgg4
  z4 := Tryz.sizeOf4
  v4 := Tryz.zeroValue4
  t5 := Tryz.underlying5
  a5 := Tryz.isAgg5
  z5 := Tryz.sizeOf5
  v5 := Tryz.zeroValue5
  t9 := Tryz.underlying9
  a9 := Tryz.isAgg9
  z9 := Tryz.sizeOf9
  v9 := Tryz.zeroValue9
  t20 := Tryz.underlying20
  a20 := Tryz.isAgg20
  z20 := Tryz.sizeOf20
  v20 := Tryz.zeroValue20
  t37 := Tryz.underlying91
  a37 := Tryz.isAgg91
  z37 := Tryz.sizeOf91
  v37 := Tryz.zeroValue91
  t46 := Tryz.underlying92
  a46 := Tryz.isAgg92
  z46 := Tryz.sizeOf92
  v46 := Tryz.zeroValue92
  t51 := Tryz.underlying226
  a51 := Tryz.isAgg226
  z51 := Tryz.sizeOf226
  v51 := Tryz.zeroValue226
  t53 := Tryz.underlying213
  a53 := Tryz.isAgg213
  z53 := Tryz.sizeOf213
  v53 := Tryz.zeroValue213
  t171 := Tryz.underlying212
  a171 := Tryz.isAgg212
  z171 := Tryz.sizeOf212
  v171 := Tryz.zeroValue212
  t173 := Tryz.underlying216
  a173 := Tryz.isAgg216
  z173 := Tryz.sizeOf216
  v173 := Tryz.zeroValue216
  t212 := Tryz.underlying225
  a212 := Tryz.isAgg225
  z212 := Tryz.sizeOf225
  v212 := Tryz.zeroValue225
  t213 := Tryz.underlying227
  a213 := Tryz.isAgg227
  z213 := Tryz.sizeOf227
  t232 := Tryz.underlying240
  a232 := Tryz.isAgg240
  z232 := Tryz.sizeOf240
  v232 := Tryz.zeroValue240
  t233 := Tryz.underlying241
  a233 := Tryz.isAgg241
  z233 := Tryz.sizeOf241
  v233 := Tryz.zeroValue241
  g17 := by kernel_rfl
  g18 := by kernel_rfl
  g19 := by kernel_rfl }
open Go.RowKit Go.Sort Go.Lib in
theorem Tryz.strconv_Itoa_small (i : Nat) (hi : i < 100) (w : World) :
    Calls Tryz.prog 164 #[.int .i64 i] w fun e w' => e = .returned (.string ⟨(Lib.decDigits i).toArray⟩) ∧ w' = w := Any.strconv_Itoa_small Tryz.lays171 i hi w
end
section
open Go.RowKit
set_option linter.unusedSimpArgs false
namespace Byt
/-- how a text names a register -/
def regName (n : Nat) : List UInt8 := 120 :: Lib.decDigits n
end Byt
theorem add_str {a b c : ByteArray} (h : a ++ b = c) (hl : a.size + b.size ≤ 100000) (w : World) : (Op.stringOp .add a b).run Tryz.prog w = .ok (.string c) w := by
  rw [← h]; exact run_string_add_sum w a b (by omega)
theorem mk_app (x y : List UInt8) : (⟨x.toArray⟩ : ByteArray) ++ ⟨y.toArray⟩ = ⟨(x ++ y).toArray⟩ := ByteArray.mk_append_mk x y
theorem names_short : ((List.range 100).all fun n => decide ((Lib.decDigits n).length ≤ 10)) = true := by decide +kernel
set_option maxHeartbeats 400000 in
theorem a_registerName (n : Nat) (hn : n < 100) (w : World) :
    Calls Tryz.prog 220 #[.int .i64 n] w fun e w' => e = .returned (Byt.strV (Byt.regName n)) ∧ w' = w := by
  have hlen := List.all_eq_true.1 names_short n (by simpa using hn)
  rw [decide_eq_true_eq] at hlen
  obtain ⟨D, hD⟩ : ∃ D : ByteArray, D = ⟨(Lib.decDigits n).toArray⟩ := ⟨_, rfl⟩
  obtain ⟨X, hX⟩ : ∃ X : ByteArray, X = ⟨(Byt.regName n).toArray⟩ := ⟨_, rfl⟩
  have hadd : ∀ w, (Op.stringOp .add ⟨#[120]⟩ D).run Tryz.prog w = .ok (.string X) w := fun w => add_str (a := ⟨#[120]⟩) (b := D) (c := X) (by rw [hD, hX]; exact mk_app [120] _) (by rw [hD]; simp [ByteArray.size]; omega) w
  have HX := hide1 hX
  have HD := hide1 hD
  clear hX hD hlen
  go_enter Tryz.func220, Tryz.ntmps220
  go_wp2_with fail
  refine (Tryz.strconv_Itoa_small n hn _).mono ?_
  rintro e w' ⟨rfl, rfl⟩
  rw [← HD.out]
  go_wp2
  go_ret
  exact ⟨by unfold Byt.strV; rw [← HX.out]; rfl, rfl⟩
end
section
open Go.RowKit
set_option linter.unusedSimpArgs false
/-- the cells of a list of strings -/
def StrsAt (w : World) (b o : Nat) (L : List (List UInt8)) : Prop := ∀ j (h : j < L.length), w.cell? ⟨b, o + j, none⟩ = some (Byt.strV L[j])
theorem StrsAt.below {w w' : World} {b o : Nat} {L : List (List UInt8)} (h : StrsAt w b o L) {n : Nat} (hb : Below n w w') (hn : b < n) : StrsAt w' b o L := fun j hj => by
  rw [hb.cell (p := ⟨b, o + j, none⟩) hn]; exact h j hj
theorem StrsAt.drop {w : World} {b o : Nat} {L : List (List UInt8)} (h : StrsAt w b o L) (k : Nat) : StrsAt w b (o + k) (L.drop k) := fun j hj => by
  have hj' : k + j < L.length := by simp at hj; omega
  have := h (k + j) hj'
  rw [List.getElem_drop, show o + k + j = o + (k + j) by omega]; exact this
theorem StrsAt.of_row {w : World} {base : Nat} {v : Value} {L : List (List UInt8)} (h : w.ownsRow base 9 1 v L.length (L.map Byt.strV)) (hn : v ≠ .slice none 0 0) :
    ∃ b cap, v = .slice (some ⟨b, 0, none⟩) L.length cap ∧ base ≤ b ∧ b < w.heap.size ∧ StrsAt w b 0 L := by
  rcases h.2 with ⟨hv, _⟩ | ⟨g, cap, cur, rfl, hb, hg, hrest⟩
  · exact absurd hv hn
  · refine ⟨g, cap, rfl, hb, (Array.getElem?_eq_some_iff.1 hg).1, fun j hj => ?_⟩
    rw [Nat.zero_add, h.cellAt j (by omega)]
    rw [List.getElem?_map, List.getElem?_eq_getElem hj]; rfl
set_option maxHeartbeats 400000 in
theorem a_tokenAt (b o cap : Nat) (L : List (List UInt8)) (_hL : L.length ≤ 5000) (a : Nat) (ha : a ≤ 10000) (w : World) (hw : Hid (StrsAt w b o L)) :
    Calls Tryz.prog 239 #[.slice (some ⟨b, o, none⟩) L.length cap, .int .i64 a] w fun e w' => e = .returned (Byt.strV (L[a]?.getD [])) ∧ w' = w := by
  by_cases h : a < L.length
  · have hc := hw.out a h
    rw [List.getElem?_eq_getElem h, Option.getD_some]
    obtain ⟨X, hX⟩ : ∃ X, X = Byt.strV L[a] := ⟨_, rfl⟩
    rw [← hX] at hc ⊢
    clear hX
    go_enter Tryz.func239, Tryz.ntmps239
    go_wp2
    go_ret
    exact ⟨rfl, rfl⟩
  · rw [List.getElem?_eq_none (by omega)]
    go_enter Tryz.func239, Tryz.ntmps239
    go_wp2
    go_ret
    exact ⟨rfl, rfl⟩
namespace Byt
/-- the register that a token names, looked for from n on -/
def regFrom (t : List UInt8) : Nat → Nat → Option Nat
  | 0, _ => none
  | f + 1, n => if t = regName n then some n else regFrom t f (n + 1)
def reg (t : List UInt8) : Option Nat := regFrom t 32 0
end Byt
theorem eq_str (s X : ByteArray) (l : List UInt8) (h : X = ⟨l.toArray⟩) : (s.toList == X.toList) = decide (s.data.toList = l) := by
  rw [Lib.toList_data, Lib.toList_data, h, Bool.eq_iff_iff]; simp
set_option maxHeartbeats 400000 in
theorem a_readRegister (s : ByteArray) (w : World) :
    Calls Tryz.prog 285 #[.string s] w fun e w' => e = .returned (.tuple #[.int .i64 ((Byt.reg s.data.toList).getD 0 : Nat), .bool (Byt.reg s.data.toList).isSome]) ∧ w' = w := by
  obtain ⟨T, hT⟩ : ∃ T, T = Byt.reg s.data.toList := ⟨_, rfl⟩
  rw [← hT]
  have HT := hide1 hT
  clear hT
  go_enter Tryz.func285, Tryz.ntmps285
  go_wp2
  go_loop [4] (fun d => ∃ i : Nat, i ≤ 32 ∧ d = .int .i64 i ∧ Hid (T = Byt.regFrom s.data.toList (32 - i) i)) (fun d => 32 - (intOf d).toNat)
  case atStart => exact ⟨0, by omega, rfl, HT⟩
  case round =>
    obtain ⟨i, hi0, rfl, hh⟩ := hrel
    by_cases hi : i < 32
    · obtain ⟨X, hX⟩ : ∃ X : ByteArray, X = ⟨(Byt.regName i).toArray⟩ := ⟨_, rfl⟩
      have hX' : Byt.strV (Byt.regName i) = .string X := by rw [hX]; rfl
      have he := eq_str s X _ hX
      have hv : T = if s.data.toList = Byt.regName i then some i else Byt.regFrom s.data.toList (32 - (i + 1)) (i + 1) := by
        rw [hh.out, show 32 - i = (32 - (i + 1)) + 1 by omega]; rfl
      by_cases hc : s.data.toList = Byt.regName i
      · rw [if_pos hc] at hv
        rw [decide_eq_true hc] at he
        have HV := hide1 hv
        have HX := hide1 hX'
        clear hX hX' hv hc hh HT
        go_wp2_with (go_at_call 220; refine (a_registerName i (by omega) _).mono ?_; rintro e w' ⟨rfl, rfl⟩; rw [HX.out])
        go_ret2
        exact ⟨by rw [HV.out]; rfl, rfl⟩
      · rw [if_neg hc] at hv
        rw [decide_eq_false hc] at he
        have HV := hide1 hv
        have HX := hide1 hX'
        clear hX hX' hv hc hh HT
        go_wp2_with (go_at_call 220; refine (a_registerName i (by omega) _).mono ?_; rintro e w' ⟨rfl, rfl⟩; rw [HX.out])
        go_round
        case rel => exact ⟨i + 1, by omega, by go_num, HV⟩
        case measure => simp [intOf]; omega
    · obtain rfl : i = 32 := by omega
      have hT : Hid (T = none) := hh
      clear hh HT
      go_wp2
      go_ret2
      exact ⟨by rw [hT.out]; rfl, rfl⟩
end
section
open Go.RowKit
set_option linter.unusedSimpArgs false
namespace Byt
/-- an instruction's name -/
def nmL (op : Nat) : List UInt8 := (Nm.name op).data.toList
/-- the instruction that a token names, and the bytes of its word, looked for from op on -/
def wrdFrom (t : List UInt8) : Nat → Nat → Nat × Nat
  | 0, _ => (0, 0)
  | f + 1, op => if t = nmL op then (op, 4) else if t = 99 :: 46 :: nmL op then (op, 2) else wrdFrom t f (op + 1)
def wrd (t : List UInt8) : Nat × Nat := if t = nmL 71 then (71, 4) else if t = nmL 72 then (72, 2) else wrdFrom t 70 1
end Byt
theorem nm_size : ((List.range 73).all fun n => decide ((Nm.name n).size ≤ 20)) = true := by decide +kernel
theorem nm_sz (n : Nat) (h : n ≤ 72) : (Nm.name n).size ≤ 20 := by
  have := List.all_eq_true.1 nm_size n (by simp; omega)
  rwa [decide_eq_true_eq] at this
theorem mk_list (s : ByteArray) : (⟨s.data.toList.toArray⟩ : ByteArray) = s := by cases s; simp
theorem short_add (n : Nat) (h : n ≤ 72) (w : World) : (Op.stringOp .add ⟨#[99, 46]⟩ (Nm.name n)).run Tryz.prog w = .ok (Byt.strV (99 :: 46 :: Byt.nmL n)) w := by
  refine add_str (a := ⟨#[99, 46]⟩) (b := Nm.name n) (c := ⟨(99 :: 46 :: Byt.nmL n).toArray⟩) ?_ (by have := nm_sz n h; have h2 : (⟨#[99, 46]⟩ : ByteArray).size = 2 := rfl; rw [h2]; omega) w
  have h := mk_app [99, 46] (Nm.name n).data.toList
  rw [mk_list] at h
  exact h
set_option maxHeartbeats 400000 in
theorem a_shortName (n : Nat) (hn : n ≤ 72) (w : World) :
    Calls Tryz.prog 165 #[.int .i64 n] w fun e w' => e = .returned (Byt.strV (99 :: 46 :: Byt.nmL n)) ∧ w' = w := by
  obtain ⟨D, hD⟩ : ∃ D, D = Nm.name n := ⟨_, rfl⟩
  have hadd := short_add n hn
  rw [← hD] at hadd
  have HD := hide1 hD
  clear hD
  go_enter Tryz.func165, Tryz.ntmps165
  go_wp2_with (go_at_call 163; refine (a_Name n _).mono ?_; rintro e w' ⟨rfl, rfl⟩; rw [← HD.out])
  go_ret
  exact ⟨rfl, rfl⟩
theorem eq_nm (s X : ByteArray) : (s.toList == X.toList) = decide (s.data.toList = X.data.toList) := by
  rw [Lib.toList_data, Lib.toList_data, Bool.eq_iff_iff]; simp
set_option maxHeartbeats 1000000 in
theorem a_readWord (s : ByteArray) (w : World) :
    Calls Tryz.prog 196 #[.string s] w fun e w' => e = .returned (.tuple #[.int .i64 (Byt.wrd s.data.toList).1, .int .i64 (Byt.wrd s.data.toList).2]) ∧ w' = w := by
  obtain ⟨T, hT⟩ : ∃ T, T = Byt.wrd s.data.toList := ⟨_, rfl⟩
  rw [← hT]
  unfold Byt.wrd at hT
  obtain ⟨W1, hW1⟩ : ∃ X, X = Nm.name 71 := ⟨_, rfl⟩
  obtain ⟨W2, hW2⟩ : ∃ X, X = Nm.name 72 := ⟨_, rfl⟩
  have he1 := eq_nm s W1
  have he2 := eq_nm s W2
  rw [hW1] at he1
  rw [hW2] at he2
  change _ = decide (s.data.toList = Byt.nmL 71) at he1
  change _ = decide (s.data.toList = Byt.nmL 72) at he2
  rw [← hW1] at he1
  rw [← hW2] at he2
  have H1 := hide1 hW1
  have H2 := hide1 hW2
  clear hW1 hW2
  by_cases c1 : s.data.toList = Byt.nmL 71
  · rw [if_pos c1] at hT
    rw [decide_eq_true c1] at he1
    subst hT
    clear c1 he2
    go_enter Tryz.func196, Tryz.ntmps196
    go_wp2_with (go_at_call 163; refine (a_Name 71 _).mono ?_; rintro e w' ⟨rfl, rfl⟩; rw [← H1.out])
    go_ret2
    exact ⟨rfl, rfl⟩
  · rw [if_neg c1] at hT
    rw [decide_eq_false c1] at he1
    by_cases c2 : s.data.toList = Byt.nmL 72
    · rw [if_pos c2] at hT
      rw [decide_eq_true c2] at he2
      subst hT
      clear c1 c2
      go_enter Tryz.func196, Tryz.ntmps196
      go_wp2_with (go_at_call 163; refine (a_Name _ _).mono ?_; rintro e w' ⟨rfl, rfl⟩; first | rw [← H1.out] | rw [← H2.out])
      go_ret2
      exact ⟨rfl, rfl⟩
    · rw [if_neg c2] at hT
      rw [decide_eq_false c2] at he2
      have HT := hide1 hT
      clear c1 c2 hT
      go_enter Tryz.func196, Tryz.ntmps196
      go_wp2_with (go_at_call 163; refine (a_Name _ _).mono ?_; rintro e w' ⟨rfl, rfl⟩; first | rw [← H1.out] | rw [← H2.out])
      clear he1 he2 H1 H2
      go_loop [4] (fun d => ∃ i : Nat, 1 ≤ i ∧ i ≤ 71 ∧ d = .int .i64 i ∧ Hid (T = Byt.wrdFrom s.data.toList (71 - i) i)) (fun d => 71 - (intOf d).toNat)
      case atStart => exact ⟨1, by omega, by omega, rfl, HT⟩
      case round =>
        obtain ⟨i, hi1, hi0, rfl, hh⟩ := hrel
        by_cases hi : i < 71
        · obtain ⟨X, hX⟩ : ∃ X : ByteArray, X = Nm.name i := ⟨_, rfl⟩
          obtain ⟨Y, hY⟩ : ∃ X : ByteArray, X = ⟨(99 :: 46 :: Byt.nmL i).toArray⟩ := ⟨_, rfl⟩
          have hY' : Byt.strV (99 :: 46 :: Byt.nmL i) = .string Y := by rw [hY]; rfl
          have he1 : (s.toList == X.toList) = decide (s.data.toList = Byt.nmL i) := by rw [hX]; exact eq_nm s _
          have he2 := eq_str s Y _ hY
          have hv : T = if s.data.toList = Byt.nmL i then (i, 4) else if s.data.toList = 99 :: 46 :: Byt.nmL i then (i, 2) else Byt.wrdFrom s.data.toList (71 - (i + 1)) (i + 1) := by
            rw [hh.out, show 71 - i = (71 - (i + 1)) + 1 by omega]; rfl
          have HX := hide1 hX
          have HY := hide1 hY'
          clear hX hY hY'
          by_cases c1 : s.data.toList = Byt.nmL i
          · rw [if_pos c1] at hv
            rw [decide_eq_true c1] at he1
            have HV := hide1 hv
            clear hv hh HT he2 c1
            go_wp2_with (go_at_call 163; refine (a_Name i _).mono ?_; rintro e w' ⟨rfl, rfl⟩; rw [← HX.out])
            go_ret2
            exact ⟨by rw [HV.out]; rfl, rfl⟩
          · rw [if_neg c1] at hv
            rw [decide_eq_false c1] at he1
            by_cases c2 : s.data.toList = 99 :: 46 :: Byt.nmL i
            · rw [if_pos c2] at hv
              rw [decide_eq_true c2] at he2
              have HV := hide1 hv
              clear hv hh HT c1 c2
              go_wp2_with (first | (go_at_call 163; refine (a_Name i _).mono ?_; rintro e w' ⟨rfl, rfl⟩; rw [← HX.out]) | (go_at_call 165; refine (a_shortName i (by omega) _).mono ?_; rintro e w' ⟨rfl, rfl⟩; rw [HY.out]))
              go_ret2
              exact ⟨by rw [HV.out]; rfl, rfl⟩
            · rw [if_neg c2] at hv
              rw [decide_eq_false c2] at he2
              have HV := hide1 hv
              clear hv hh HT c1 c2
              go_wp2_with (first | (go_at_call 163; refine (a_Name i _).mono ?_; rintro e w' ⟨rfl, rfl⟩; rw [← HX.out]) | (go_at_call 165; refine (a_shortName i (by omega) _).mono ?_; rintro e w' ⟨rfl, rfl⟩; rw [HY.out]))
              go_round
              case rel => exact ⟨i + 1, by omega, by omega, by go_num, HV⟩
              case measure => simp [intOf]; omega
        · obtain rfl : i = 71 := by omega
          have hT : Hid (T = (0, 0)) := hh
          clear hh HT
          go_wp2
          go_ret2
          exact ⟨by rw [hT.out]; rfl, rfl⟩
end
section
open Go.RowKit
set_option linter.unusedSimpArgs false
/-- what a line says -/
structure Ln where
  nm : List UInt8
  i : Ins
  tg : List UInt8
def lnA (N : ByteArray) (i : Ins) (G : ByteArray) : Value := .agg #[.string N, .int .i64 i.op, .int .i64 i.rd, .int .i64 i.rs1, .int .i64 i.rs2, .int .i64 i.im, .int .i64 i.ln, .string G]
def lnV (l : Ln) : Value := lnA ⟨l.nm.toArray⟩ l.i ⟨l.tg.toArray⟩
def ln0 : Ln := ⟨[], ins0, []⟩
def insO (N G : ByteArray) : Option Ins → Value
  | some i => .tuple #[lnA N i G, .bool true]
  | none => .tuple #[lnA ⟨#[]⟩ ins0 ⟨#[]⟩, .bool false]
namespace Byt
/-- a register operand -/
def opdR (i : Ins) (c : Nat) (t : List UInt8) : Option Ins :=
  match reg t with
  | none => none
  | some r => some (if c = 100 then { i with rd := r } else if c = 115 then { i with rs1 := r } else { i with rs2 := r })
/-- a number operand -/
def opdN (i : Ins) (c : Nat) (t : List UInt8) : Option Ins :=
  if (number t).2 = true then some (if c = 117 then { i with rs1 := (number t).1 } else { i with im := (number t).1 }) else none
/-- a place operand -/
def opdM (i : Ins) (t0 t1 t2 t3 : List UInt8) : Option Ins :=
  if t1 = [40] ∧ t3 = [41] ∧ (number t0).2 = true then
    match reg t2 with
    | none => none
    | some r => some { i with im := (number t0).1, rs1 := r }
  else none
end Byt
set_option maxHeartbeats 1000000 in
theorem a_readRegisterOperand (N G : ByteArray) (i : Ins) (c : Nat) (hc : c = 100 ∨ c = 115 ∨ c = 116) (s : ByteArray) (w : World) :
    Calls Tryz.prog 261 #[lnA N i G, .int .u8 c, .string s] w fun e w' => e = .returned (insO N G (Byt.opdR i c s.data.toList)) ∧ Below w.heap.size w w' := by
  unfold Byt.opdR
  obtain ⟨T, hT⟩ : ∃ T, T = Byt.reg s.data.toList := ⟨_, rfl⟩
  rw [← hT]
  have HT := hide1 hT
  clear hT
  unfold lnA
  cases T with
  | none =>
    go_enter Tryz.func261, Tryz.ntmps261
    go_wp2_with fail
    refine (a_readRegister s _).mono ?_
    rintro e w' ⟨rfl, rfl⟩
    rw [← HT.out]
    go_wp2
    refine bodyPost_ret (v := insO N G none) (by simp [results, Tryz.results261, go_sem, insO, lnA, ins0]) rfl ⟨rfl, ?_⟩
    repeat (first | exact Below.refl _ _ | (with_reducible refine Below.setCell ?_ (by simp) _) | (with_reducible refine Below.alloc ?_ (by simp) _))
  | some r =>
    rcases hc with rfl | rfl | rfl
    · go_enter Tryz.func261, Tryz.ntmps261
      go_wp2_with fail
      refine (a_readRegister s _).mono ?_
      rintro e w' ⟨rfl, rfl⟩
      rw [← HT.out]
      go_wp2
      refine bodyPost_ret (v := insO N G (some { i with rd := r })) (by simp [results, Tryz.results261, go_sem, insO, lnA, ins0]) rfl ⟨rfl, ?_⟩
      repeat (first | exact Below.refl _ _ | (with_reducible refine Below.setCell ?_ (by simp) _) | (with_reducible refine Below.alloc ?_ (by simp) _))
    · go_enter Tryz.func261, Tryz.ntmps261
      go_wp2_with fail
      refine (a_readRegister s _).mono ?_
      rintro e w' ⟨rfl, rfl⟩
      rw [← HT.out]
      go_wp2
      refine bodyPost_ret (v := insO N G (some { i with rs1 := r })) (by simp [results, Tryz.results261, go_sem, insO, lnA, ins0]) rfl ⟨rfl, ?_⟩
      repeat (first | exact Below.refl _ _ | (with_reducible refine Below.setCell ?_ (by simp) _) | (with_reducible refine Below.alloc ?_ (by simp) _))
    · go_enter Tryz.func261, Tryz.ntmps261
      go_wp2_with fail
      refine (a_readRegister s _).mono ?_
      rintro e w' ⟨rfl, rfl⟩
      rw [← HT.out]
      go_wp2
      refine bodyPost_ret (v := insO N G (some { i with rs2 := r })) (by simp [results, Tryz.results261, go_sem, insO, lnA, ins0]) rfl ⟨rfl, ?_⟩
      repeat (first | exact Below.refl _ _ | (with_reducible refine Below.setCell ?_ (by simp) _) | (with_reducible refine Below.alloc ?_ (by simp) _))
end
section
open Go.RowKit
set_option linter.unusedSimpArgs false
theorem eq_lit (s : ByteArray) (l : List UInt8) : (s.toList == l) = decide (s.data.toList = l) := by
  rw [Lib.toList_data, Bool.eq_iff_iff]; simp
theorem StrsAt.more {w w' : World} {b o : Nat} {L : List (List UInt8)} (h : Hid (StrsAt w b o L)) (hn : b < w.heap.size) (hb : Below w.heap.size w w') : Hid (StrsAt w' b o L) := h.out.below hb hn
def Short (L : List (List UInt8)) : Prop := ∀ t ∈ L, t.length ≤ 5000
theorem Short.get {L : List (List UInt8)} (h : Hid (Short L)) (a : Nat) : (L[a]?.getD []).length ≤ 5000 := by
  cases e : L[a]? with
  | none => simp
  | some t => exact h.out t (List.mem_of_getElem? e)
set_option maxHeartbeats 2000000 in
theorem a_readPlaceOperand (N G : ByteArray) (i : Ins) (b o cap : Nat) (L : List (List UInt8)) (hL : L.length ≤ 5000) (a : Nat) (ha : a ≤ 9000) (w : World) (hw : Hid (StrsAt w b o L)) (hb : b < w.heap.size) (hs : Hid (Short L)) :
    Calls Tryz.prog 262 #[lnA N i G, .slice (some ⟨b, o, none⟩) L.length cap, .int .i64 a] w fun e w' => e = .returned (insO N G (Byt.opdM i (L[a]?.getD []) (L[a + 1]?.getD []) (L[a + 2]?.getD []) (L[a + 3]?.getD []))) ∧ Below w.heap.size w w' := by
  unfold lnA
  have c0 := fun w hw => a_tokenAt b o cap L hL a (by omega) w hw
  have c1 := fun w hw => a_tokenAt b o cap L hL (a + 1) (by omega) w hw
  have c2 := fun w hw => a_tokenAt b o cap L hL (a + 2) (by omega) w hw
  have c3 := fun w hw => a_tokenAt b o cap L hL (a + 3) (by omega) w hw
  have s0 := Short.get hs a
  obtain ⟨t0, h0⟩ : ∃ t, t = L[a]?.getD [] := ⟨_, rfl⟩
  obtain ⟨t1, h1⟩ : ∃ t, t = L[a + 1]?.getD [] := ⟨_, rfl⟩
  obtain ⟨t2, h2⟩ : ∃ t, t = L[a + 2]?.getD [] := ⟨_, rfl⟩
  obtain ⟨t3, h3⟩ : ∃ t, t = L[a + 3]?.getD [] := ⟨_, rfl⟩
  rw [← h0, ← h1, ← h2, ← h3]
  rw [← h0] at c0 s0
  rw [← h1] at c1
  rw [← h2] at c2
  rw [← h3] at c3
  clear h0 h1 h2 h3
  obtain ⟨X0, e0⟩ : ∃ X : ByteArray, X = ⟨t0.toArray⟩ := ⟨_, rfl⟩
  obtain ⟨X1, e1⟩ : ∃ X : ByteArray, X = ⟨t1.toArray⟩ := ⟨_, rfl⟩
  obtain ⟨X2, e2⟩ : ∃ X : ByteArray, X = ⟨t2.toArray⟩ := ⟨_, rfl⟩
  obtain ⟨X3, e3⟩ : ∃ X : ByteArray, X = ⟨t3.toArray⟩ := ⟨_, rfl⟩
  rw [show Byt.strV t0 = .string X0 by rw [e0]; rfl] at c0
  rw [show Byt.strV t1 = .string X1 by rw [e1]; rfl] at c1
  rw [show Byt.strV t2 = .string X2 by rw [e2]; rfl] at c2
  rw [show Byt.strV t3 = .string X3 by rw [e3]; rfl] at c3
  have f0 : X0.data.toList = t0 := by rw [e0]
  have f1 : X1.data.toList = t1 := by rw [e1]
  have f2 : X2.data.toList = t2 := by rw [e2]
  have f3 : X3.data.toList = t3 := by rw [e3]
  have s0' : X0.size ≤ 5000 := by rw [e0]; simpa [ByteArray.size] using s0
  clear e0 e1 e2 e3 s0
  subst f0 f1 f2 f3
  have C0 := hide1 c0
  have C1 := hide1 c1
  have C2 := hide1 c2
  have C3 := hide1 c3
  clear c0 c1 c2 c3
  have B2 : Below w.heap.size w ((w.alloc (.cells #[Value.string N, .int .i64 i.op, .int .i64 i.rd, .int .i64 i.rs1, .int .i64 i.rs2, .int .i64 i.im, .int .i64 i.ln, .string G] 155)).alloc (.cells #[Value.string ⟨#[]⟩, .int .i64 0, .int .i64 0, .int .i64 0, .int .i64 0, .int .i64 0, .int .i64 0, .string ⟨#[]⟩] 155)) := ((Below.refl _ _).alloc (by simp) _).alloc (by simp) _
  have hw2 := StrsAt.more hw hb B2
  have HB := hide1 B2
  clear B2
  have q1 : (X1.toList == [40]) = decide (X1.data.toList = [40]) := eq_lit X1 [40]
  have q3 : (X3.toList == [41]) = decide (X3.data.toList = [41]) := eq_lit X3 [41]
  unfold Byt.opdM
  by_cases k1 : X1.data.toList = [40]
  · rw [decide_eq_true k1] at q1
    by_cases k3 : X3.data.toList = [41]
    · rw [decide_eq_true k3] at q3
      obtain ⟨V, hV⟩ : ∃ V, V = Byt.number X0.data.toList := ⟨_, rfl⟩
      rw [← hV]
      have HV := hide1 hV
      clear hV
      obtain ⟨v, vb⟩ := V
      cases vb with
      | false =>
        rw [if_neg (fun h => by simp at h)]
        clear k1 k3
        go_enter Tryz.func262, Tryz.ntmps262
        go_wp2_with fail
        rw [show (a : Int) + 1 = ((a + 1 : Nat) : Int) by omega]
        refine (C1.out _ hw2).mono ?_
        rintro e w1 ⟨rfl, rfl⟩
        go_wp2_with fail
        rw [show (a : Int) + 3 = ((a + 3 : Nat) : Int) by omega]
        refine (C3.out _ hw2).mono ?_
        rintro e w1 ⟨rfl, rfl⟩
        go_wp2_with fail
        refine (C0.out _ hw2).mono ?_
        rintro e w1 ⟨rfl, rfl⟩
        go_wp2_with fail
        refine (a_readNumber X0 s0' _).mono ?_
        rintro e w1 ⟨rfl, rfl⟩
        rw [← HV.out]
        go_wp2
        refine bodyPost_ret (v := insO N G none) (by simp [results, Tryz.results262, go_sem, insO, lnA, ins0]) rfl ⟨rfl, ?_⟩
        repeat (first | exact Below.refl _ _ | (with_reducible refine Below.setCell ?_ (by simp) _) | (with_reducible refine Below.alloc ?_ (by simp) _))
      | true =>
        rw [if_pos ⟨k1, k3, rfl⟩]
        clear k1 k3
        obtain ⟨R, hR⟩ : ∃ R, R = Byt.reg X2.data.toList := ⟨_, rfl⟩
        rw [← hR]
        have HR := hide1 hR
        clear hR
        cases R with
        | none =>
          go_enter Tryz.func262, Tryz.ntmps262
          go_wp2_with fail
          rw [show (a : Int) + 1 = ((a + 1 : Nat) : Int) by omega]
          refine (C1.out _ hw2).mono ?_
          rintro e w1 ⟨rfl, rfl⟩
          go_wp2_with fail
          rw [show (a : Int) + 3 = ((a + 3 : Nat) : Int) by omega]
          refine (C3.out _ hw2).mono ?_
          rintro e w1 ⟨rfl, rfl⟩
          go_wp2_with fail
          refine (C0.out _ hw2).mono ?_
          rintro e w1 ⟨rfl, rfl⟩
          go_wp2_with fail
          refine (a_readNumber X0 s0' _).mono ?_
          rintro e w1 ⟨rfl, rfl⟩
          rw [← HV.out]
          go_wp2_with fail
          rw [show (a : Int) + 2 = ((a + 2 : Nat) : Int) by omega]
          refine (C2.out _ hw2).mono ?_
          rintro e w1 ⟨rfl, rfl⟩
          go_wp2_with fail
          refine (a_readRegister X2 _).mono ?_
          rintro e w1 ⟨rfl, rfl⟩
          rw [← HR.out]
          go_wp2
          refine bodyPost_ret (v := insO N G none) (by simp [results, Tryz.results262, go_sem, insO, lnA, ins0]) rfl ⟨rfl, ?_⟩
          repeat (first | exact Below.refl _ _ | (with_reducible refine Below.setCell ?_ (by simp) _) | (with_reducible refine Below.alloc ?_ (by simp) _))
        | some r =>
          go_enter Tryz.func262, Tryz.ntmps262
          go_wp2_with fail
          rw [show (a : Int) + 1 = ((a + 1 : Nat) : Int) by omega]
          refine (C1.out _ hw2).mono ?_
          rintro e w1 ⟨rfl, rfl⟩
          go_wp2_with fail
          rw [show (a : Int) + 3 = ((a + 3 : Nat) : Int) by omega]
          refine (C3.out _ hw2).mono ?_
          rintro e w1 ⟨rfl, rfl⟩
          go_wp2_with fail
          refine (C0.out _ hw2).mono ?_
          rintro e w1 ⟨rfl, rfl⟩
          go_wp2_with fail
          refine (a_readNumber X0 s0' _).mono ?_
          rintro e w1 ⟨rfl, rfl⟩
          rw [← HV.out]
          go_wp2_with fail
          rw [show (a : Int) + 2 = ((a + 2 : Nat) : Int) by omega]
          refine (C2.out _ hw2).mono ?_
          rintro e w1 ⟨rfl, rfl⟩
          go_wp2_with fail
          refine (a_readRegister X2 _).mono ?_
          rintro e w1 ⟨rfl, rfl⟩
          rw [← HR.out]
          go_wp2
          refine bodyPost_ret (v := insO N G (some { i with im := v, rs1 := r })) (by simp [results, Tryz.results262, go_sem, insO, lnA, ins0]) rfl ⟨rfl, ?_⟩
          repeat (first | exact Below.refl _ _ | (with_reducible refine Below.setCell ?_ (by simp) _) | (with_reducible refine Below.alloc ?_ (by simp) _))
    · rw [decide_eq_false k3] at q3
      rw [if_neg (fun h => k3 h.2.1)]
      clear k1 k3
      go_enter Tryz.func262, Tryz.ntmps262
      go_wp2_with fail
      rw [show (a : Int) + 1 = ((a + 1 : Nat) : Int) by omega]
      refine (C1.out _ hw2).mono ?_
      rintro e w1 ⟨rfl, rfl⟩
      go_wp2_with fail
      rw [show (a : Int) + 3 = ((a + 3 : Nat) : Int) by omega]
      refine (C3.out _ hw2).mono ?_
      rintro e w1 ⟨rfl, rfl⟩
      go_wp2
      refine bodyPost_ret (v := insO N G none) (by simp [results, Tryz.results262, go_sem, insO, lnA, ins0]) rfl ⟨rfl, ?_⟩
      repeat (first | exact Below.refl _ _ | (with_reducible refine Below.setCell ?_ (by simp) _) | (with_reducible refine Below.alloc ?_ (by simp) _))
  · rw [decide_eq_false k1] at q1
    rw [if_neg (fun h => k1 h.1)]
    clear k1 q3
    go_enter Tryz.func262, Tryz.ntmps262
    go_wp2_with fail
    rw [show (a : Int) + 1 = ((a + 1 : Nat) : Int) by omega]
    refine (C1.out _ hw2).mono ?_
    rintro e w1 ⟨rfl, rfl⟩
    go_wp2
    refine bodyPost_ret (v := insO N G none) (by simp [results, Tryz.results262, go_sem, insO, lnA, ins0]) rfl ⟨rfl, ?_⟩
    repeat (first | exact Below.refl _ _ | (with_reducible refine Below.setCell ?_ (by simp) _) | (with_reducible refine Below.alloc ?_ (by simp) _))
end
end Go.Proofs.YthfofjkfbhahoaaGreatDoor
