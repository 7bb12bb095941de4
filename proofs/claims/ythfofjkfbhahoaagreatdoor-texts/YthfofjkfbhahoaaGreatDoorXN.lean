import Derived.Test.YthfofjkfbhahoaaGreatDoorXM
import Derived.Deep.CutBlock
import Derived.Deep.CutRange
import Derived.Shelf.Strconv.Itoa0
import Derived.Shelf.Strconv.Itoa1
import Derived.Shelf.LaysM
import Derived.Shelf.Strconv.Itoa2
import Derived.Shelf.Strconv.Itoa3
import Derived.Test.YthfofjkfbhahoaaGreatDoorProg
import Derived.Test.YthfofjkfbhahoaaGreatDoorXA
import Derived.Laws.Concat
import Derived.Lib.ItoaLen
section
namespace Go.Proofs.YthfofjkfbhahoaaGreatDoor
open Go.RowKit
set_option linter.unusedSimpArgs false
theorem rowEnd_in : ∀ (l : List UInt8) (j : Nat) (h : j < l.length), j < Byt.rowEnd l → Byt.inn l[j] = true
  | [], _, h, _ => by simp at h
  | c :: l, j, h, hj => by
    simp only [Byt.rowEnd] at hj
    split at hj
    · next hc =>
      cases j with
      | zero => exact hc
      | succ j => exact rowEnd_in l j (by simpa using h) (by omega)
    · omega
theorem rowEnd_out : ∀ (l : List UInt8), Byt.rowEnd l < l.length → (l[Byt.rowEnd l]?).map Byt.inn = some false
  | [], h => by simp at h
  | c :: l, h => by
    cases hc : Byt.inn c
    · have e : Byt.rowEnd (c :: l) = 0 := by simp [Byt.rowEnd, hc]
      rw [e]; simp [hc]
    · have e : Byt.rowEnd (c :: l) = Byt.rowEnd l + 1 := by simp [Byt.rowEnd, hc]
      rw [e] at h ⊢
      simp only [List.getElem?_cons_succ]
      exact rowEnd_out l (by simpa using h)
theorem row_in (s : ByteArray) (a j : Nat) (h1 : a ≤ j) (h2 : j < a + Byt.rowEnd (s.data.toList.drop a)) (h3 : j < s.size) : Byt.inn s[j] = true := by
  have h := rowEnd_in (s.data.toList.drop a) (j - a) (by simp; omega) (by omega)
  rw [List.getElem_drop] at h
  simp only [show a + (j - a) = j by omega] at h
  exact h
theorem row_out (s : ByteArray) (a : Nat) (E : Nat) (hE : E = a + Byt.rowEnd (s.data.toList.drop a)) (h3 : E < s.size) : Byt.inn s[E] = false := by
  have h := rowEnd_out (s.data.toList.drop a) (by simp; omega)
  rw [List.getElem?_drop, ← hE, get0 s E h3] at h
  simpa using h
set_option maxHeartbeats 4000000 in
theorem u_tokens (s : ByteArray) (hs : s.size ≤ 5000) (w : World) :
    Calls Tryz.prog 169 #[.string s] w fun e w' => ∃ v, e = .returned v ∧ v ≠ .slice none 0 0 ∧ w'.ownsRow w.heap.size 9 1 v (Byt.tok s.size s.data.toList).length ((Byt.tok s.size s.data.toList).map Byt.strV) ∧ Below w.heap.size w w' := by
  have hmk : ∀ w, (Instr.buildSlice 136 0 #[]).run Tryz.prog w = .ok (.slice (some ⟨w.heap.size, 0, none⟩) 0 0) (w.alloc (.cells #[] 9)) := fun _ => by kernel_rfl
  obtain ⟨i0, hi, hz0, hz1, hz2⟩ := info_parts Tryz.info9
  obtain ⟨T, hT⟩ : ∃ T, T = Byt.tok s.size s.data.toList := ⟨_, rfl⟩
  rw [← hT]
  have HT := hide1 hT
  clear hT
  go_enter Tryz.func169, Tryz.ntmps169
  go_wp2
  go_loopw [3, 4] (fun v d wr => ∃ (a : Nat) (p : List (List UInt8)), a ≤ s.size ∧ p.length ≤ a ∧ d = .int .i64 a ∧ v ≠ .slice none 0 0 ∧ wr.ownsRow w.heap.size 9 1 v p.length (p.map Byt.strV) ∧ Below w.heap.size w wr ∧ Hid (T = p ++ Byt.tok (s.size - a) (s.data.toList.drop a))) (fun _ d _ => s.size - (intOf d).toNat)
  case atStart => exact ⟨0, [], by omega, by simp, rfl, by simp, World.ownsRow_made w _ 0 (Nat.le_refl _) (by unfold maxLen; omega) rfl, (Below.refl _ _).alloc (Nat.le_refl _) _, HT⟩
  case round =>
    obtain ⟨a, p, ha, hpl, rfl, hnn, hown, hb, hh⟩ := hrel
    by_cases hlt : a < s.size
    · have hdr := dropb s a hlt
      have hf : s.size - a = (s.size - a - 1) + 1 := by omega
      have hbs := hb.size
      have hrow : ∀ j, u3.ownBlock = some j → w.heap.size ≤ j := fun j hj => (hown.lt j hj).1
      by_cases c35 : s[a].toNat = 35
      · have c35' : ((s[a].toNat : Int) != 35) = false := by simp; omega
        have hT : Hid (T = p) := (by rw [hh.out, hdr, hf]; simp only [Byt.tok]; rw [if_pos c35]; simp : T = p)
        clear hh hdr hf c35
        go_wp2
        go_ret
        exact ⟨_, rfl, hnn, by rw [hT.out]; exact hown, hb⟩
      · have c35' : ((s[a].toNat : Int) != 35) = true := by simp; omega
        have hre : Byt.rowEnd (s.data.toList.drop a) ≤ s.size - a := by have := rowEnd_le (s.data.toList.drop a); simp at this; exact this
        obtain ⟨r, hr⟩ : ∃ r, r = Byt.rowEnd (s.data.toList.drop a) := ⟨_, rfl⟩
        rw [← hr] at hre
        have HR := hide1 hr
        have hstep : T = p ++ (if 0 < r then (s.data.toList.drop a).take r :: Byt.tok (s.size - a - 1) ((s.data.toList.drop a).drop r) else if Byt.blank s[a] = true then Byt.tok (s.size - a - 1) (s.data.toList.drop (a + 1)) else [s[a]] :: Byt.tok (s.size - a - 1) (s.data.toList.drop (a + 1))) := by
          rw [hh.out, hr, hf, hdr]; simp only [Byt.tok]; rw [if_neg c35]; simp only [Nat.add_sub_cancel]
        clear hr hh hdr hf c35
        have HS := hide1 hstep
        clear hstep
        obtain ⟨E, hE⟩ : ∃ E, E = a + r := ⟨_, rfl⟩
        have HE := hide1 hE
        have hE1 : E ≤ s.size := by omega
        have hE0 : a ≤ E := by omega
        clear hE hre
        have hin : ∀ j, a ≤ j → j < E → (h : j < s.size) → Byt.inn s[j] = true := fun j h1 h2 h => row_in s a j h1 (by rw [← HR.out, ← HE.out]; exact h2) h
        have HIN := hide1 hin
        have hout : (h : E < s.size) → Byt.inn s[E] = false := fun h => row_out s a E (by rw [← HR.out, ← HE.out]) h
        have HOUT := hide1 hout
        clear hin hout HR
        go_upto_block 2 with fail
        clear c35'
        go_cut [5, 6] from 19 to 30 (fun d _ wc => d = .int .i64 (E : Int) ∧ wc = wr)
        case first =>
          go_wp2_with fail
          go_loop [5, 6] (fun d _ => ∃ j : Nat, a ≤ j ∧ j ≤ E ∧ d = .int .i64 j) (fun d _ => s.size - (intOf d).toNat)
          case atStart => exact ⟨a, Nat.le_refl _, hE0, rfl⟩
          case round =>
            obtain ⟨j, hj1, hj2, rfl⟩ := hrel
            by_cases hjE : j < E
            · have hjs : j < s.size := by omega
              have hjn := HIN.out j hj1 hjE hjs
              go_wp2_with (go_at_call 222; refine (u_inner _ _).mono ?_; rintro e w' ⟨rfl, rfl⟩)
              go_round
              case rel => exact ⟨j + 1, by omega, by omega, by go_num⟩
              case measure => simp [intOf]; omega
            · have hje : j = E := by omega
              have HJE := hide1 hje
              clear hje
              by_cases hjs : j < s.size
              · have hjn : Byt.inn s[j] = false := by
                  have h := HOUT.out (by have := HJE.out; omega)
                  have e2 := HJE.out
                  subst e2
                  exact h
                go_wp2_with (go_at_call 222; refine (u_inner _ _).mono ?_; rintro e w' ⟨rfl, rfl⟩)
                go_meet
                case rel => exact ⟨by rw [HJE.out], rfl⟩
              · go_wp2
                go_meet
                case rel => exact ⟨by rw [HJE.out], rfl⟩
        case rest =>
          obtain ⟨rfl, rfl⟩ := hcut
          clear HIN HOUT
          by_cases hr0 : 0 < r
          · have hE2 : a < E := by have := HE.out; omega
            have hv : Hid (T = (p ++ [(s.data.toList.drop a).take r]) ++ Byt.tok (s.size - E) (s.data.toList.drop E)) := by
              show T = _
              rw [HE.out, HS.out, if_pos hr0, List.drop_drop, tok_more (s.size - a - 1) (s.size - (a + r)) _ (by simp; omega) (by simp)]
              simp
            clear HS hr0
            obtain ⟨X, hX⟩ : ∃ X, X = s.extract a E := ⟨_, rfl⟩
            have hsl : ∀ w, (Instr.slice 9 (.string s) (some (.int .i64 (a : Int))) (some (.int .i64 (E : Int))) none).run Tryz.prog w = .ok (.string X) w := by
              intro w; rw [hX]; exact slice_mid s a E (by omega) hE1 w
            have HX := hide1 hX
            clear hX
            go_wp2_with (at_builtin; refine wpList_append_own _ rfl (.tmp 34) (.tmp 39) 136 rfl w.heap.size 9 i0 (.string ⟨#[]⟩) 1 16 Tryz.underlying136 hi hz0 hz1 hz2 rfl (by decide) _ _ _ rfl (hown.alloc _) ⟨_, 0, none⟩ 1 1 [.string X] rfl rfl ?c1 ?c2 ?c3 ?c4 ?c5 ?_)
            case c1 =>
              intro j u hj
              match j, hj with
              | 0, hj => simp at hj; subst hj; simp [Addr.add]
            case c2 => intro u hu; simp at hu; subst hu; rfl
            case c3 => unfold maxLen; omega
            case c4 => omega
            case c5 => simp; omega
            intro v' w1 hown' hgrow hnil
            have hnn' : v' ≠ .slice none 0 0 := fun h => hnil h
            clear hnil
            have hrow2 : Below w.heap.size w w1 := (hb.alloc hbs _).grown hgrow (by simp; omega) hrow
            clear hown hgrow
            rw [HX.out, ext_str, show E - a = r by have := HE.out; omega] at hown'
            go_wp2
            go_roundw
            case rel => exact ⟨E, p ++ [(s.data.toList.drop a).take r], by omega, by simp; omega, by go_num, hnn', by simpa using hown', hrow2, hv⟩
            case measure => simp [intOf]; omega
          · have hEa : E = a := by have := HE.out; omega
            rw [hEa]
            clear HE hE1 hE0 hEa
            rw [if_neg hr0] at HS
            have b1 : Byt.blank s[a] = (((s[a].toNat : Int) == 32) || ((s[a].toNat : Int) == 9)) := by
              unfold Byt.blank; rw [Bool.eq_iff_iff]; simp; omega
            cases c32 : ((s[a].toNat : Int) == 32)
            · cases c9 : ((s[a].toNat : Int) == 9)
              · rw [b1, c32, c9, if_neg (by decide)] at HS
                have d32 : ((s[a].toNat : Int) != 32) = true := by rw [bne, c32]; rfl
                have d9 : ((s[a].toNat : Int) != 9) = true := by rw [bne, c9]; rfl
                have hv : Hid (T = (p ++ [[s[a]]]) ++ Byt.tok (s.size - (a + 1)) (s.data.toList.drop (a + 1))) := by
                  show T = _
                  rw [HS.out, show s.size - (a + 1) = s.size - a - 1 by omega]; simp
                clear HS b1 c32 c9
                have h1 : (s.data.toList.drop a).take 1 = [s[a]] := by rw [dropb s a hlt]; rfl
                have H1 := hide1 h1
                clear h1
                obtain ⟨X, hX⟩ : ∃ X, X = s.extract a (a + 1) := ⟨_, rfl⟩
                have hsl : ∀ w, (Instr.slice 9 (.string s) (some (.int .i64 (a : Int))) (some (.int .i64 ((a : Int) + 1))) none).run Tryz.prog w = .ok (.string X) w := by
                  intro w; rw [hX]; exact slice_mid s a (a + 1) (by omega) (by omega) w
                have HX := hide1 hX
                clear hX
                go_wp2_with (at_builtin; refine wpList_append_own _ rfl (.tmp 52) (.tmp 58) 136 rfl w.heap.size 9 i0 (.string ⟨#[]⟩) 1 16 Tryz.underlying136 hi hz0 hz1 hz2 rfl (by decide) _ _ _ rfl (hown.alloc _) ⟨_, 0, none⟩ 1 1 [.string X] rfl rfl ?c1 ?c2 ?c3 ?c4 ?c5 ?_)
                case c1 =>
                  intro j u hj
                  match j, hj with
                  | 0, hj => simp at hj; subst hj; simp [Addr.add]
                case c2 => intro u hu; simp at hu; subst hu; rfl
                case c3 => unfold maxLen; omega
                case c4 => omega
                case c5 => simp; omega
                intro v' w1 hown' hgrow hnil
                have hnn' : v' ≠ .slice none 0 0 := fun h => hnil h
                clear hnil
                have hrow2 : Below w.heap.size w w1 := (hb.alloc hbs _).grown hgrow (by simp; omega) hrow
                clear hown hgrow
                rw [HX.out, ext_str, show a + 1 - a = 1 by omega, H1.out] at hown'
                go_wp2
                go_roundw
                case rel => exact ⟨a + 1, p ++ [[s[a]]], by omega, by simp; omega, by go_num, hnn', by simpa using hown', hrow2, hv⟩
                case measure => simp [intOf]; omega
              · rw [b1, c32, c9, show (false || true) = true from rfl, if_pos rfl] at HS
                have d32 : ((s[a].toNat : Int) != 32) = true := by rw [bne, c32]; rfl
                have d9 : ((s[a].toNat : Int) != 9) = false := by rw [bne, c9]; rfl
                have hv : Hid (T = p ++ Byt.tok (s.size - (a + 1)) (s.data.toList.drop (a + 1))) := by
                  show T = _
                  rw [HS.out, show s.size - (a + 1) = s.size - a - 1 by omega]
                clear HS b1 c32 c9
                go_wp2
                go_roundw
                case rel => exact ⟨a + 1, p, by omega, by omega, by go_num, hnn, hown, hb, hv⟩
                case measure => simp [intOf]; omega
            · rw [b1, c32, Bool.true_or, if_pos rfl] at HS
              have d32 : ((s[a].toNat : Int) != 32) = false := by rw [bne, c32]; rfl
              have hv : Hid (T = p ++ Byt.tok (s.size - (a + 1)) (s.data.toList.drop (a + 1))) := by
                show T = _
                rw [HS.out, show s.size - (a + 1) = s.size - a - 1 by omega]
              clear HS b1 c32
              go_wp2
              go_roundw
              case rel => exact ⟨a + 1, p, by omega, by omega, by go_num, hnn, hown, hb, hv⟩
              case measure => simp [intOf]; omega
    · have hlt' : decide ((a : Int) < (s.size : Int)) = false := by simp; omega
      have hT : Hid (T = p) := (by rw [hh.out, show s.size - a = 0 by omega]; simp [Byt.tok] : T = p)
      clear hh
      go_wp2
      go_ret
      exact ⟨_, rfl, hnn, by rw [hT.out]; exact hown, hb⟩
end Go.Proofs.YthfofjkfbhahoaaGreatDoor
end
section
namespace Go.Proofs.YthfofjkfbhahoaaGreatDoor
open Go.Shelf
def Tryz.lays129_ren : Go.Shelf.Ren := ⟨fun | 129 => 289 | n => n, fun | 53 => 213 | 3 => 3 | 4 => 4 | 46 => 92 | 5 => 5 | 9 => 9 | n => n, fun | n => n⟩
theorem Tryz.lays129 : Go.Proofs.Lays.n129 Tryz.prog Tryz.lays129_ren := {
  mixed := by kernel_rfl
  f129 := Tryz.func289.trans (congrArg some (by kernel_rfl))
  t3 := Tryz.underlying3
  a3 := Tryz.isAgg3
  z3 := Tryz.sizeOf3
  v3 := Tryz.zeroValue3
  t4 := Tryz.underlying4
  a4 := Tryz.isAgg4
  z4 := Tryz.sizeOf4
  v4 := Tryz.zeroValue4
  t5 := Tryz.underlying5
  a5 := Tryz.isAgg5
  z5 := Tryz.sizeOf5
  v5 := Tryz.zeroValue5
  t9 := Tryz.underlying9
  a9 := Tryz.isAgg9
  z9 := Tryz.sizeOf9
  v9 := Tryz.zeroValue9
  t46 := Tryz.underlying92
  a46 := Tryz.isAgg92
  z46 := Tryz.sizeOf92
  v46 := Tryz.zeroValue92
  t53 := Tryz.underlying213
  a53 := Tryz.isAgg213
  z53 := Tryz.sizeOf213
  v53 := Tryz.zeroValue213 }
theorem Tryz.bits_Len64 (x : Int) (w : World) (h0 : 0 ≤ x) (h1 : x ≤ 18446744073709551615) :
    Calls Tryz.prog 289 #[.int .u64 x] w fun e w' => e = .returned (.int .i64 (Lib.bitLen x.toNat)) ∧ w' = w := Any.bits_Len64 Tryz.lays129 x w h0 h1
def Tryz.lays317_ren : Go.Shelf.Ren := ⟨fun | 317 => 288 | n => n, fun | 3 => 3 | 46 => 92 | n => n, fun | n => n⟩
theorem Tryz.lays317 : Go.Proofs.Lays.n317 Tryz.prog Tryz.lays317_ren := {
  mixed := by kernel_rfl
  f317 := Tryz.func288.trans (congrArg some (by kernel_rfl))
  t3 := Tryz.underlying3
  a3 := Tryz.isAgg3
  z3 := Tryz.sizeOf3
  v3 := Tryz.zeroValue3
  t46 := Tryz.underlying92
  a46 := Tryz.isAgg92
  z46 := Tryz.sizeOf92
  v46 := Tryz.zeroValue92 }
open Go.Lib in
theorem Tryz.internal_strconv_log10Pow2 (x : Nat) (h : x ≤ 64) (w : World) :
    Calls Tryz.prog 288 #[.int .i64 x] w fun e w' => e = .returned (.int .i64 (Lib.l10 x)) ∧ w' = w := Any.internal_strconv_log10Pow2 Tryz.lays317 x h w
def Tryz.lays318_ren : Go.Shelf.Ren := ⟨fun | 318 => 290 | n => n, fun | 3 => 3 | 4 => 4 | n => n, fun | n => n⟩
theorem Tryz.lays318 : Go.Proofs.Lays.n318 Tryz.prog Tryz.lays318_ren := {
  mixed := by kernel_rfl
  f318 := Tryz.func290.trans (congrArg some (by kernel_rfl))
  t3 := Tryz.underlying3
  a3 := Tryz.isAgg3
  z3 := Tryz.sizeOf3
  v3 := Tryz.zeroValue3
  t4 := Tryz.underlying4
  a4 := Tryz.isAgg4
  z4 := Tryz.sizeOf4
  v4 := Tryz.zeroValue4 }
open Go.Lib in
theorem Tryz.internal_strconv_bool2_int (b : Bool) (w : World) :
    Calls Tryz.prog 290 #[.bool b] w fun e w' => e = .returned (.int .i64 (if b then 1 else 0)) ∧ w' = w := Any.internal_strconv_bool2_int Tryz.lays318 b w
def Tryz.lays283_ren : Go.Shelf.Ren := ⟨fun | 283 => 265 | n => n, fun | 3 => 3 | 9 => 9 | 4 => 4 | n => n, fun | n => n⟩
theorem Tryz.lays283 : Go.Proofs.Lays.n283 Tryz.prog Tryz.lays283_ren := {
  mixed := by kernel_rfl
  f283 := Tryz.func265.trans (congrArg some (by kernel_rfl))
  t3 := Tryz.underlying3
  a3 := Tryz.isAgg3
  z3 := Tryz.sizeOf3
  v3 := Tryz.zeroValue3
  t4 := Tryz.underlying4
  a4 := Tryz.isAgg4
  z4 := Tryz.sizeOf4
  v4 := Tryz.zeroValue4
  t9 := Tryz.underlying9
  a9 := Tryz.isAgg9
  z9 := Tryz.sizeOf9
  v9 := Tryz.zeroValue9 }
open Go.Lib in
theorem Tryz.internal_strconv_small (i : Nat) (h : i < 100) (w : World) :
    Calls Tryz.prog 265 #[.int .i64 i] w fun e w' => e = .returned (.string ⟨(Lib.decDigits i).toArray⟩) ∧ w' = w := Any.internal_strconv_small Tryz.lays283 i h w
def Tryz.laysM284_ren : Go.Shelf.Ren := ⟨fun | 284 => 266 | 129 => 289 | 317 => 288 | 318 => 290 | n => n, fun | 53 => 213 | 3 => 3 | 212 => 225 | 0 => 0 | 4 => 4 | 46 => 92 | 5 => 5 | 9 => 9 | n => n, fun | 17 => 0 | n => n⟩
theorem Tryz.laysM284 : Go.Proofs.LaysM.n284 Tryz.prog Tryz.laysM284_ren := {
  mixed := by kernel_rfl
  f129 := Tryz.func289.trans (congrArg some (by kernel_rfl))
  f284 := Tryz.func266.trans (congrArg some (by kernel_rfl))
  f317 := Tryz.func288.trans (congrArg some (by kernel_rfl))
  f318 := Tryz.func290.trans (congrArg some (by kernel_rfl))
  t0 := Tryz.underlying0
  a0 := Tryz.isAgg0
  z0 := Tryz.sizeOf0
  v0 := Tryz.zeroValue0
  t3 := Tryz.underlying3
  a3 := Tryz.isAgg3
  z3 := Tryz.sizeOf3
  v3 := Tryz.zeroValue3
  t4 := Tryz.underlying4
  a4 := Tryz.isAgg4
  z4 := Tryz.sizeOf4
  v4 := Tryz.zeroValue4
  t5 := Tryz.underlying5
  a5 := Tryz.isAgg5
  z5 := Tryz.sizeOf5
  v5 := Tryz.zeroValue5
  t9 := Tryz.underlying9
  a9 := Tryz.isAgg9
  z9 := Tryz.sizeOf9
  v9 := Tryz.zeroValue9
  t46 := Tryz.underlying92
  a46 := Tryz.isAgg92
  z46 := Tryz.sizeOf92
  v46 := Tryz.zeroValue92
  t53 := Tryz.underlying213
  a53 := Tryz.isAgg213
  z53 := Tryz.sizeOf213
  v53 := Tryz.zeroValue213
  t212 := Tryz.underlying225
  a212 := Tryz.isAgg225
  z212 := Tryz.sizeOf225
  v212 := Tryz.zeroValue225
  g17 := by kernel_rfl
  i0 := by kernel_rfl
  i3 := by kernel_rfl
  i4 := by kernel_rfl
  i5 := by kernel_rfl
  i9 := by kernel_rfl
  i46 := by kernel_rfl
  i53 := by kernel_rfl
  i212 := by kernel_rfl
  m17 := by kernel_rfl }
open Go.Lib in
theorem Tryz.internal_strconv_numDigits (u : Nat) (h1 : 1 ≤ u) (h2 : u < 18446744073709551616) (w : World) (htab : Lib.TabIs Tryz.prog w "internal/strconv.uint64pow10" .u64 Lib.pow10Tab) :
    Calls Tryz.prog 266 #[.int .u64 u] w fun e w' => e = .returned (.int .i64 (Lib.nDigits u)) ∧ w' = w := Any.internal_strconv_numDigits Tryz.laysM284 u h1 h2 w htab
def Tryz.lays285_ren : Go.Shelf.Ren := ⟨fun | 285 => 267 | n => n, fun | 37 => 91 | 53 => 213 | 3 => 3 | 4 => 4 | 51 => 226 | 9 => 9 | 5 => 5 | 0 => 0 | n => n, fun | n => n⟩
theorem Tryz.lays285 : Go.Proofs.Lays.n285 Tryz.prog Tryz.lays285_ren := {
  mixed := by kernel_rfl
  f285 := Tryz.func267.trans (congrArg some (by kernel_rfl))
  t0 := Tryz.underlying0
  a0 := Tryz.isAgg0
  z0 := Tryz.sizeOf0
  v0 := Tryz.zeroValue0
  t3 := Tryz.underlying3
  a3 := Tryz.isAgg3
  z3 := Tryz.sizeOf3
  v3 := Tryz.zeroValue3
  t4 := Tryz.underlying4
  a4 := Tryz.isAgg4
  z4 := Tryz.sizeOf4
  v4 := Tryz.zeroValue4
  t5 := Tryz.underlying5
  a5 := Tryz.isAgg5
  z5 := Tryz.sizeOf5
  v5 := Tryz.zeroValue5
  t9 := Tryz.underlying9
  a9 := Tryz.isAgg9
  z9 := Tryz.sizeOf9
  v9 := Tryz.zeroValue9
  t37 := Tryz.underlying91
  a37 := Tryz.isAgg91
  z37 := Tryz.sizeOf91
  v37 := Tryz.zeroValue91
  t51 := Tryz.underlying226
  a51 := Tryz.isAgg226
  z51 := Tryz.sizeOf226
  v51 := Tryz.zeroValue226
  t53 := Tryz.underlying213
  a53 := Tryz.isAgg213
  z53 := Tryz.sizeOf213
  v53 := Tryz.zeroValue213 }
open Go.RowKit Go.Sort Go.Lib in
theorem Tryz.internal_strconv_formatBase10 (blk off cap : Nat) (u : Nat) (d : Array UInt8) (w : World) (hH : Holds (fun (b : UInt8) => Value.int .u8 (b.toNat : Int)) w blk off d) (hu : u < 10 ^ d.size) (hu64 : u < 18446744073709551616) (hsz : d.size < 4611686018427387904) :
    Calls Tryz.prog 267 #[.slice (some ⟨blk, off, none⟩) d.size cap, .int .u64 u] w fun e w' =>
      e = .returned (.tuple #[]) ∧ ∃ (n v' : Nat) (dk : Array UInt8), w' = (putRow (fun (b : UInt8) => Value.int .u8 (b.toNat : Int)) w blk off dk).drewN n ∧ FmtInv d.size u 0 v' dk := Any.internal_strconv_formatBase10 Tryz.lays285 blk off cap u d w hH hu hu64 hsz
def Tryz.laysM246_ren : Go.Shelf.Ren := ⟨fun | 246 => 243 | 283 => 265 | 284 => 266 | 285 => 267 | 286 => 268 | 129 => 289 | 317 => 288 | 318 => 290 | 319 => 291 | 320 => 292 | 337 => 323 | 338 => 324 | n => n, fun | 2 => 2 | 3 => 3 | 9 => 9 | 4 => 4 | 171 => 212 | 0 => 0 | 53 => 213 | 37 => 91 | 5 => 5 | 173 => 216 | 212 => 225 | 51 => 226 | 20 => 20 | 213 => 227 | 46 => 92 | 232 => 240 | 233 => 241 | n => n, fun | 17 => 0 | 18 => 1 | 19 => 2 | n => n⟩
theorem Tryz.laysM246 : Go.Proofs.LaysM.n246 Tryz.prog Tryz.laysM246_ren := {
  mixed := by kernel_rfl
  f129 := Tryz.func289.trans (congrArg some (by kernel_rfl))
  f246 := Tryz.func243.trans (congrArg some (by kernel_rfl))
  f283 := Tryz.func265.trans (congrArg some (by kernel_rfl))
  f284 := Tryz.func266.trans (congrArg some (by kernel_rfl))
  f285 := Tryz.func267.trans (congrArg some (by kernel_rfl))
  f286 := Tryz.func268.trans (congrArg some (by kernel_rfl))
  f317 := Tryz.func288.trans (congrArg some (by kernel_rfl))
  f318 := Tryz.func290.trans (congrArg some (by kernel_rfl))
  f319 := Tryz.func291.trans (congrArg some (by kernel_rfl))
  f320 := Tryz.func292.trans (congrArg some (by kernel_rfl))
  f337 := Tryz.func323.trans (congrArg some (by kernel_rfl))
  f338 := Tryz.func324.trans (congrArg some (by kernel_rfl))
  t0 := Tryz.underlying0
  a0 := Tryz.isAgg0
  z0 := Tryz.sizeOf0
  v0 := Tryz.zeroValue0
  t2 := Tryz.underlying2
  a2 := Tryz.isAgg2
  z2 := Tryz.sizeOf2
  v2 := Tryz.zeroValue2
  t3 := Tryz.underlying3
  a3 := Tryz.isAgg3
  z3 := Tryz.sizeOf3
  v3 := Tryz.zeroValue3
  t4 := Tryz.underlying4
  a4 := Tryz.isAgg4
  z4 := Tryz.sizeOf4
  v4 := Tryz.zeroValue4
  t5 := Tryz.underlying5
  a5 := Tryz.isAgg5
  z5 := Tryz.sizeOf5
  v5 := Tryz.zeroValue5
  t9 := Tryz.underlying9
  a9 := Tryz.isAgg9
  z9 := Tryz.sizeOf9
  v9 := Tryz.zeroValue9
  t20 := Tryz.underlying20
  a20 := Tryz.isAgg20
  z20 := Tryz.sizeOf20
  v20 := Tryz.zeroValue20
  t37 := Tryz.underlying91
  a37 := Tryz.isAgg91
  z37 := Tryz.sizeOf91
  v37 := Tryz.zeroValue91
  t46 := Tryz.underlying92
  a46 := Tryz.isAgg92
  z46 := Tryz.sizeOf92
  v46 := Tryz.zeroValue92
  t51 := Tryz.underlying226
  a51 := Tryz.isAgg226
  z51 := Tryz.sizeOf226
  v51 := Tryz.zeroValue226
  t53 := Tryz.underlying213
  a53 := Tryz.isAgg213
  z53 := Tryz.sizeOf213
  v53 := Tryz.zeroValue213
  t171 := Tryz.underlying212
  a171 := Tryz.isAgg212
  z171 := Tryz.sizeOf212
  v171 := Tryz.zeroValue212
  t173 := Tryz.underlying216
  a173 := Tryz.isAgg216
  z173 := Tryz.sizeOf216
  v173 := Tryz.zeroValue216
  t212 := Tryz.underlying225
  a212 := Tryz.isAgg225
  z212 := Tryz.sizeOf225
  v212 := Tryz.zeroValue225
  t213 := Tryz.underlying227
  a213 := Tryz.isAgg227
  z213 := Tryz.sizeOf227
  t232 := Tryz.underlying240
  a232 := Tryz.isAgg240
  z232 := Tryz.sizeOf240
  v232 := Tryz.zeroValue240
  t233 := Tryz.underlying241
  a233 := Tryz.isAgg241
  z233 := Tryz.sizeOf241
  v233 := Tryz.zeroValue241
  g17 := by kernel_rfl
  g18 := by kernel_rfl
  g19 := by kernel_rfl
  i0 := by kernel_rfl
  i2 := by kernel_rfl
  i3 := by kernel_rfl
  i4 := by kernel_rfl
  i5 := by kernel_rfl
  i9 := by kernel_rfl
  i20 := by kernel_rfl
  i37 := by kernel_rfl
  i46 := by kernel_rfl
  i51 := by kernel_rfl
  i53 := by kernel_rfl
  i171 := by kernel_rfl
  i173 := by kernel_rfl
  i212 := by kernel_rfl
  i232 := by kernel_rfl
  i233 := by kernel_rfl
  m17 := by kernel_rfl
  m18 := by kernel_rfl
  m19 := by kernel_rfl }
open Go.RowKit Go.Sort Go.Lib in
theorem Tryz.internal_strconv_FormatInt_10 (n : Int) (h0 : -9223372036854775808 ≤ n) (h1 : n ≤ 9223372036854775807) (w : World) (htab : Lib.TabIs Tryz.prog w "internal/strconv.uint64pow10" .u64 Lib.pow10Tab) :
    Calls Tryz.prog 243 #[.int .i64 n, .int .i64 10] w fun e w' => e = .returned (.string ⟨(Lib.itoa n).toArray⟩) ∧ ∃ k os, w' = grow (w.drewN k) os := Any.internal_strconv_FormatInt_10 Tryz.laysM246 n h0 h1 w htab
def Tryz.lays246_ren : Go.Shelf.Ren := ⟨fun | 246 => 243 | 283 => 265 | 284 => 266 | 285 => 267 | 286 => 268 | 129 => 289 | 317 => 288 | 318 => 290 | 319 => 291 | 320 => 292 | 337 => 323 | 338 => 324 | n => n, fun | 2 => 2 | 3 => 3 | 9 => 9 | 4 => 4 | 171 => 212 | 0 => 0 | 53 => 213 | 37 => 91 | 5 => 5 | 173 => 216 | 212 => 225 | 51 => 226 | 20 => 20 | 213 => 227 | 46 => 92 | 232 => 240 | 233 => 241 | n => n, fun | 17 => 0 | 18 => 1 | 19 => 2 | n => n⟩
theorem Tryz.lays246 : Go.Proofs.Lays.n246 Tryz.prog Tryz.lays246_ren := {
  mixed := by kernel_rfl
  f129 := Tryz.func289.trans (congrArg some (by kernel_rfl))
  f246 := Tryz.func243.trans (congrArg some (by kernel_rfl))
  f283 := Tryz.func265.trans (congrArg some (by kernel_rfl))
  f284 := Tryz.func266.trans (congrArg some (by kernel_rfl))
  f285 := Tryz.func267.trans (congrArg some (by kernel_rfl))
  f286 := Tryz.func268.trans (congrArg some (by kernel_rfl))
  f317 := Tryz.func288.trans (congrArg some (by kernel_rfl))
  f318 := Tryz.func290.trans (congrArg some (by kernel_rfl))
  f319 := Tryz.func291.trans (congrArg some (by kernel_rfl))
  f320 := Tryz.func292.trans (congrArg some (by kernel_rfl))
  f337 := Tryz.func323.trans (congrArg some (by kernel_rfl))
  f338 := Tryz.func324.trans (congrArg some (by kernel_rfl))
  t0 := Tryz.underlying0
  a0 := Tryz.isAgg0
  z0 := Tryz.sizeOf0
  v0 := Tryz.zeroValue0
  t2 := Tryz.underlying2
  a2 := Tryz.isAgg2
  z2 := Tryz.sizeOf2
  v2 := Tryz.zeroValue2
  t3 := Tryz.underlying3
  a3 := Tryz.isAgg3
  z3 := Tryz.sizeOf3
  v3 := Tryz.zeroValue3
  t4 := Tryz.underlying4
  a4 := Tryz.isAgg4
  z4 := Tryz.sizeOf4
  v4 := Tryz.zeroValue4
  t5 := Tryz.underlying5
  a5 := Tryz.isAgg5
  z5 := Tryz.sizeOf5
  v5 := Tryz.zeroValue5
  t9 := Tryz.underlying9
  a9 := Tryz.isAgg9
  z9 := Tryz.sizeOf9
  v9 := Tryz.zeroValue9
  t20 := Tryz.underlying20
  a20 := Tryz.isAgg20
  z20 := Tryz.sizeOf20
  v20 := Tryz.zeroValue20
  t37 := Tryz.underlying91
  a37 := Tryz.isAgg91
  z37 := Tryz.sizeOf91
  v37 := Tryz.zeroValue91
  t46 := Tryz.underlying92
  a46 := Tryz.isAgg92
  z46 := Tryz.sizeOf92
  v46 := Tryz.zeroValue92
  t51 := Tryz.underlying226
  a51 := Tryz.isAgg226
  z51 := Tryz.sizeOf226
  v51 := Tryz.zeroValue226
  t53 := Tryz.underlying213
  a53 := Tryz.isAgg213
  z53 := Tryz.sizeOf213
  v53 := Tryz.zeroValue213
  t171 := Tryz.underlying212
  a171 := Tryz.isAgg212
  z171 := Tryz.sizeOf212
  v171 := Tryz.zeroValue212
  t173 := Tryz.underlying216
  a173 := Tryz.isAgg216
  z173 := Tryz.sizeOf216
  v173 := Tryz.zeroValue216
  t212 := Tryz.underlying225
  a212 := Tryz.isAgg225
  z212 := Tryz.sizeOf225
  v212 := Tryz.zeroValue225
  t213 := Tryz.underlying227
  a213 := Tryz.isAgg227
  z213 := Tryz.sizeOf227
  t232 := Tryz.underlying240
  a232 := Tryz.isAgg240
  z232 := Tryz.sizeOf240
  v232 := Tryz.zeroValue240
  t233 := Tryz.underlying241
  a233 := Tryz.isAgg241
  z233 := Tryz.sizeOf241
  v233 := Tryz.zeroValue241
  g17 := by kernel_rfl
  g18 := by kernel_rfl
  g19 := by kernel_rfl }
open Go.RowKit Go.Sort Go.Lib in
theorem Tryz.internal_strconv_FormatInt_10_small (i : Nat) (hi : i < 100) (w : World) :
    Calls Tryz.prog 243 #[.int .i64 i, .int .i64 10] w fun e w' => e = .returned (.string ⟨(Lib.decDigits i).toArray⟩) ∧ w' = w := Any.internal_strconv_FormatInt_10_small Tryz.lays246 i hi w
def Tryz.laysM243_ren : Go.Shelf.Ren := ⟨fun | 243 => 219 | 246 => 243 | 283 => 265 | 284 => 266 | 285 => 267 | 286 => 268 | 129 => 289 | 317 => 288 | 318 => 290 | 319 => 291 | 320 => 292 | 337 => 323 | 338 => 324 | n => n, fun | 3 => 3 | 9 => 9 | 2 => 2 | 4 => 4 | 171 => 212 | 0 => 0 | 53 => 213 | 37 => 91 | 5 => 5 | 173 => 216 | 212 => 225 | 51 => 226 | 20 => 20 | 213 => 227 | 46 => 92 | 232 => 240 | 233 => 241 | n => n, fun | 17 => 0 | 18 => 1 | 19 => 2 | n => n⟩
theorem Tryz.laysM243 : Go.Proofs.LaysM.n243 Tryz.prog Tryz.laysM243_ren := {
  mixed := by kernel_rfl
  f129 := Tryz.func289.trans (congrArg some (by kernel_rfl))
  f243 := Tryz.func219.trans (congrArg some (by kernel_rfl))
  f246 := Tryz.func243.trans (congrArg some (by kernel_rfl))
  f283 := Tryz.func265.trans (congrArg some (by kernel_rfl))
  f284 := Tryz.func266.trans (congrArg some (by kernel_rfl))
  f285 := Tryz.func267.trans (congrArg some (by kernel_rfl))
  f286 := Tryz.func268.trans (congrArg some (by kernel_rfl))
  f317 := Tryz.func288.trans (congrArg some (by kernel_rfl))
  f318 := Tryz.func290.trans (congrArg some (by kernel_rfl))
  f319 := Tryz.func291.trans (congrArg some (by kernel_rfl))
  f320 := Tryz.func292.trans (congrArg some (by kernel_rfl))
  f337 := Tryz.func323.trans (congrArg some (by kernel_rfl))
  f338 := Tryz.func324.trans (congrArg some (by kernel_rfl))
  t0 := Tryz.underlying0
  a0 := Tryz.isAgg0
  z0 := Tryz.sizeOf0
  v0 := Tryz.zeroValue0
  t2 := Tryz.underlying2
  a2 := Tryz.isAgg2
  z2 := Tryz.sizeOf2
  v2 := Tryz.zeroValue2
  t3 := Tryz.underlying3
  a3 := Tryz.isAgg3
  z3 := Tryz.sizeOf3
  v3 := Tryz.zeroValue3
  t4 := Tryz.underlying4
  a4 := Tryz.isAgg4
  z4 := Tryz.sizeOf4
  v4 := Tryz.zeroValue4
  t5 := Tryz.underlying5
  a5 := Tryz.isAgg5
  z5 := Tryz.sizeOf5
  v5 := Tryz.zeroValue5
  t9 := Tryz.underlying9
  a9 := Tryz.isAgg9
  z9 := Tryz.sizeOf9
  v9 := Tryz.zeroValue9
  t20 := Tryz.underlying20
  a20 := Tryz.isAgg20
  z20 := Tryz.sizeOf20
  v20 := Tryz.zeroValue20
  t37 := Tryz.underlying91
  a37 := Tryz.isAgg91
  z37 := Tryz.sizeOf91
  v37 := Tryz.zeroValue91
  t46 := Tryz.underlying92
  a46 := Tryz.isAgg92
  z46 := Tryz.sizeOf92
  v46 := Tryz.zeroValue92
  t51 := Tryz.underlying226
  a51 := Tryz.isAgg226
  z51 := Tryz.sizeOf226
  v51 := Tryz.zeroValue226
  t53 := Tryz.underlying213
  a53 := Tryz.isAgg213
  z53 := Tryz.sizeOf213
  v53 := Tryz.zeroValue213
  t171 := Tryz.underlying212
  a171 := Tryz.isAgg212
  z171 := Tryz.sizeOf212
  v171 := Tryz.zeroValue212
  t173 := Tryz.underlying216
  a173 := Tryz.isAgg216
  z173 := Tryz.sizeOf216
  v173 := Tryz.zeroValue216
  t212 := Tryz.underlying225
  a212 := Tryz.isAgg225
  z212 := Tryz.sizeOf225
  v212 := Tryz.zeroValue225
  t213 := Tryz.underlying227
  a213 := Tryz.isAgg227
  z213 := Tryz.sizeOf227
  t232 := Tryz.underlying240
  a232 := Tryz.isAgg240
  z232 := Tryz.sizeOf240
  v232 := Tryz.zeroValue240
  t233 := Tryz.underlying241
  a233 := Tryz.isAgg241
  z233 := Tryz.sizeOf241
  v233 := Tryz.zeroValue241
  g17 := by kernel_rfl
  g18 := by kernel_rfl
  g19 := by kernel_rfl
  i0 := by kernel_rfl
  i2 := by kernel_rfl
  i3 := by kernel_rfl
  i4 := by kernel_rfl
  i5 := by kernel_rfl
  i9 := by kernel_rfl
  i20 := by kernel_rfl
  i37 := by kernel_rfl
  i46 := by kernel_rfl
  i51 := by kernel_rfl
  i53 := by kernel_rfl
  i171 := by kernel_rfl
  i173 := by kernel_rfl
  i212 := by kernel_rfl
  i232 := by kernel_rfl
  i233 := by kernel_rfl
  m17 := by kernel_rfl
  m18 := by kernel_rfl
  m19 := by kernel_rfl }
open Go.RowKit Go.Sort Go.Lib in
theorem Tryz.internal_strconv_Itoa (n : Int) (h0 : -9223372036854775808 ≤ n) (h1 : n ≤ 9223372036854775807) (w : World) (htab : Lib.TabIs Tryz.prog w "internal/strconv.uint64pow10" .u64 Lib.pow10Tab) :
    Calls Tryz.prog 219 #[.int .i64 n] w fun e w' => e = .returned (.string ⟨(Lib.itoa n).toArray⟩) ∧ ∃ k os, w' = grow (w.drewN k) os := Any.internal_strconv_Itoa Tryz.laysM243 n h0 h1 w htab
def Tryz.lays243_ren : Go.Shelf.Ren := ⟨fun | 243 => 219 | 246 => 243 | 283 => 265 | 284 => 266 | 285 => 267 | 286 => 268 | 129 => 289 | 317 => 288 | 318 => 290 | 319 => 291 | 320 => 292 | 337 => 323 | 338 => 324 | n => n, fun | 3 => 3 | 9 => 9 | 2 => 2 | 4 => 4 | 171 => 212 | 0 => 0 | 53 => 213 | 37 => 91 | 5 => 5 | 173 => 216 | 212 => 225 | 51 => 226 | 20 => 20 | 213 => 227 | 46 => 92 | 232 => 240 | 233 => 241 | n => n, fun | 17 => 0 | 18 => 1 | 19 => 2 | n => n⟩
theorem Tryz.lays243 : Go.Proofs.Lays.n243 Tryz.prog Tryz.lays243_ren := {
  mixed := by kernel_rfl
  f129 := Tryz.func289.trans (congrArg some (by kernel_rfl))
  f243 := Tryz.func219.trans (congrArg some (by kernel_rfl))
  f246 := Tryz.func243.trans (congrArg some (by kernel_rfl))
  f283 := Tryz.func265.trans (congrArg some (by kernel_rfl))
  f284 := Tryz.func266.trans (congrArg some (by kernel_rfl))
  f285 := Tryz.func267.trans (congrArg some (by kernel_rfl))
  f286 := Tryz.func268.trans (congrArg some (by kernel_rfl))
  f317 := Tryz.func288.trans (congrArg some (by kernel_rfl))
  f318 := Tryz.func290.trans (congrArg some (by kernel_rfl))
  f319 := Tryz.func291.trans (congrArg some (by kernel_rfl))
  f320 := Tryz.func292.trans (congrArg some (by kernel_rfl))
  f337 := Tryz.func323.trans (congrArg some (by kernel_rfl))
  f338 := Tryz.func324.trans (congrArg some (by kernel_rfl))
  t0 := Tryz.underlying0
  a0 := Tryz.isAgg0
  z0 := Tryz.sizeOf0
  v0 := Tryz.zeroValue0
  t2 := Tryz.underlying2
  a2 := Tryz.isAgg2
  z2 := Tryz.sizeOf2
  v2 := Tryz.zeroValue2
  t3 := Tryz.underlying3
  a3 := Tryz.isAgg3
  z3 := Tryz.sizeOf3
  v3 := Tryz.zeroValue3
  t4 := Tryz.underlying4
  a4 := Tryz.isAgg4
  z4 := Tryz.sizeOf4
  v4 := Tryz.zeroValue4
  t5 := Tryz.underlying5
  a5 := Tryz.isAgg5
  z5 := Tryz.sizeOf5
  v5 := Tryz.zeroValue5
  t9 := Tryz.underlying9
  a9 := Tryz.isAgg9
  z9 := Tryz.sizeOf9
  v9 := Tryz.zeroValue9
  t20 := Tryz.underlying20
  a20 := Tryz.isAgg20
  z20 := Tryz.sizeOf20
  v20 := Tryz.zeroValue20
  t37 := Tryz.underlying91
  a37 := Tryz.isAgg91
  z37 := Tryz.sizeOf91
  v37 := Tryz.zeroValue91
  t46 := Tryz.underlying92
  a46 := Tryz.isAgg92
  z46 := Tryz.sizeOf92
  v46 := Tryz.zeroValue92
  t51 := Tryz.underlying226
  a51 := Tryz.isAgg226
  z51 := Tryz.sizeOf226
  v51 := Tryz.zeroValue226
  t53 := Tryz.underlying213
  a53 := Tryz.isAgg213
  z53 := Tryz.sizeOf213
  v53 := Tryz.zeroValue213
  t171 := Tryz.underlying212
  a171 := Tryz.isAgg212
  z171 := Tryz.sizeOf212
  v171 := Tryz.zeroValue212
  t173 := Tryz.underlying216
  a173 := Tryz.isAgg216
  z173 := Tryz.sizeOf216
  v173 := Tryz.zeroValue216
  t212 := Tryz.underlying225
  a212 := Tryz.isAgg225
  z212 := Tryz.sizeOf225
  v212 := Tryz.zeroValue225
  t213 := Tryz.underlying227
  a213 := Tryz.isAgg227
  z213 := Tryz.sizeOf227
  t232 := Tryz.underlying240
  a232 := Tryz.isAgg240
  z232 := Tryz.sizeOf240
  v232 := Tryz.zeroValue240
  t233 := Tryz.underlying241
  a233 := Tryz.isAgg241
  z233 := Tryz.sizeOf241
  v233 := Tryz.zeroValue241
  g17 := by kernel_rfl
  g18 := by kernel_rfl
  g19 := by kernel_rfl }
open Go.RowKit Go.Sort Go.Lib in
theorem Tryz.internal_strconv_Itoa_small (i : Nat) (hi : i < 100) (w : World) :
    Calls Tryz.prog 219 #[.int .i64 i] w fun e w' => e = .returned (.string ⟨(Lib.decDigits i).toArray⟩) ∧ w' = w := Any.internal_strconv_Itoa_small Tryz.lays243 i hi w
def Tryz.laysM171_ren : Go.Shelf.Ren := ⟨fun | 171 => 164 | 243 => 219 | 246 => 243 | 283 => 265 | 284 => 266 | 285 => 267 | 286 => 268 | 129 => 289 | 317 => 288 | 318 => 290 | 319 => 291 | 320 => 292 | 337 => 323 | 338 => 324 | n => n, fun | 3 => 3 | 9 => 9 | 2 => 2 | 4 => 4 | 171 => 212 | 0 => 0 | 53 => 213 | 37 => 91 | 5 => 5 | 173 => 216 | 212 => 225 | 51 => 226 | 20 => 20 | 213 => 227 | 46 => 92 | 232 => 240 | 233 => 241 | n => n, fun | 17 => 0 | 18 => 1 | 19 => 2 | n => n⟩
theorem Tryz.laysM171 : Go.Proofs.LaysM.n171 Tryz.prog Tryz.laysM171_ren := {
  mixed := by kernel_rfl
  f129 := Tryz.func289.trans (congrArg some (by kernel_rfl))
  f171 := Tryz.func164.trans (congrArg some (by kernel_rfl))
  f243 := Tryz.func219.trans (congrArg some (by kernel_rfl))
  f246 := Tryz.func243.trans (congrArg some (by kernel_rfl))
  f283 := Tryz.func265.trans (congrArg some (by kernel_rfl))
  f284 := Tryz.func266.trans (congrArg some (by kernel_rfl))
  f285 := Tryz.func267.trans (congrArg some (by kernel_rfl))
  f286 := Tryz.func268.trans (congrArg some (by kernel_rfl))
  f317 := Tryz.func288.trans (congrArg some (by kernel_rfl))
  f318 := Tryz.func290.trans (congrArg some (by kernel_rfl))
  f319 := Tryz.func291.trans (congrArg some (by kernel_rfl))
  f320 := Tryz.func292.trans (congrArg some (by kernel_rfl))
  f337 := Tryz.func323.trans (congrArg some (by kernel_rfl))
  f338 := Tryz.func324.trans (congrArg some (by kernel_rfl))
  t0 := Tryz.underlying0
  a0 := Tryz.isAgg0
  z0 := Tryz.sizeOf0
  v0 := Tryz.zeroValue0
  t2 := Tryz.underlying2
  a2 := Tryz.isAgg2
  z2 := Tryz.sizeOf2
  v2 := Tryz.zeroValue2
  t3 := Tryz.underlying3
  a3 := Tryz.isAgg3
  z3 := Tryz.sizeOf3
  v3 := Tryz.zeroValue3
  t4 := Tryz.underlying4
  a4 := Tryz.isAgg4
  z4 := Tryz.sizeOf4
  v4 := Tryz.zeroValue4
  t5 := Tryz.underlying5
  a5 := Tryz.isAgg5
  z5 := Tryz.sizeOf5
  v5 := Tryz.zeroValue5
  t9 := Tryz.underlying9
  a9 := Tryz.isAgg9
  z9 := Tryz.sizeOf9
  v9 := Tryz.zeroValue9
  t20 := Tryz.underlying20
  a20 := Tryz.isAgg20
  z20 := Tryz.sizeOf20
  v20 := Tryz.zeroValue20
  t37 := Tryz.underlying91
  a37 := Tryz.isAgg91
  z37 := Tryz.sizeOf91
  v37 := Tryz.zeroValue91
  t46 := Tryz.underlying92
  a46 := Tryz.isAgg92
  z46 := Tryz.sizeOf92
  v46 := Tryz.zeroValue92
  t51 := Tryz.underlying226
  a51 := Tryz.isAgg226
  z51 := Tryz.sizeOf226
  v51 := Tryz.zeroValue226
  t53 := Tryz.underlying213
  a53 := Tryz.isAgg213
  z53 := Tryz.sizeOf213
  v53 := Tryz.zeroValue213
  t171 := Tryz.underlying212
  a171 := Tryz.isAgg212
  z171 := Tryz.sizeOf212
  v171 := Tryz.zeroValue212
  t173 := Tryz.underlying216
  a173 := Tryz.isAgg216
  z173 := Tryz.sizeOf216
  v173 := Tryz.zeroValue216
  t212 := Tryz.underlying225
  a212 := Tryz.isAgg225
  z212 := Tryz.sizeOf225
  v212 := Tryz.zeroValue225
  t213 := Tryz.underlying227
  a213 := Tryz.isAgg227
  z213 := Tryz.sizeOf227
  t232 := Tryz.underlying240
  a232 := Tryz.isAgg240
  z232 := Tryz.sizeOf240
  v232 := Tryz.zeroValue240
  t233 := Tryz.underlying241
  a233 := Tryz.isAgg241
  z233 := Tryz.sizeOf241
  v233 := Tryz.zeroValue241
  g17 := by kernel_rfl
  g18 := by kernel_rfl
  g19 := by kernel_rfl
  i0 := by kernel_rfl
  i2 := by kernel_rfl
  i3 := by kernel_rfl
  i4 := by kernel_rfl
  i5 := by kernel_rfl
  i9 := by kernel_rfl
  i20 := by kernel_rfl
  i37 := by kernel_rfl
  i46 := by kernel_rfl
  i51 := by kernel_rfl
  i53 := by kernel_rfl
  i171 := by kernel_rfl
  i173 := by kernel_rfl
  i212 := by kernel_rfl
  i232 := by kernel_rfl
  i233 := by kernel_rfl
  m17 := by kernel_rfl
  m18 := by kernel_rfl
  m19 := by kernel_rfl }
open Go.RowKit Go.Sort Go.Lib in
theorem Tryz.strconv_Itoa (n : Int) (h0 : -9223372036854775808 ≤ n) (h1 : n ≤ 9223372036854775807) (w : World) (htab : Lib.TabIs Tryz.prog w "internal/strconv.uint64pow10" .u64 Lib.pow10Tab) :
    Calls Tryz.prog 164 #[.int .i64 n] w fun e w' => e = .returned (.string ⟨(Lib.itoa n).toArray⟩) ∧ ∃ k os, w' = grow (w.drewN k) os := Any.strconv_Itoa Tryz.laysM171 n h0 h1 w htab
def Tryz.lays171_ren : Go.Shelf.Ren := ⟨fun | 171 => 164 | 243 => 219 | 246 => 243 | 283 => 265 | 284 => 266 | 285 => 267 | 286 => 268 | 129 => 289 | 317 => 288 | 318 => 290 | 319 => 291 | 320 => 292 | 337 => 323 | 338 => 324 | n => n, fun | 3 => 3 | 9 => 9 | 2 => 2 | 4 => 4 | 171 => 212 | 0 => 0 | 53 => 213 | 37 => 91 | 5 => 5 | 173 => 216 | 212 => 225 | 51 => 226 | 20 => 20 | 213 => 227 | 46 => 92 | 232 => 240 | 233 => 241 | n => n, fun | 17 => 0 | 18 => 1 | 19 => 2 | n => n⟩
theorem Tryz.lays171 : Go.Proofs.Lays.n171 Tryz.prog Tryz.lays171_ren := {
  mixed := by kernel_rfl
  f129 := Tryz.func289.trans (congrArg some (by kernel_rfl))
  f171 := Tryz.func164.trans (congrArg some (by kernel_rfl))
  f243 := Tryz.func219.trans (congrArg some (by kernel_rfl))
  f246 := Tryz.func243.trans (congrArg some (by kernel_rfl))
  f283 := Tryz.func265.trans (congrArg some (by kernel_rfl))
  f284 := Tryz.func266.trans (congrArg some (by kernel_rfl))
  f285 := Tryz.func267.trans (congrArg some (by kernel_rfl))
  f286 := Tryz.func268.trans (congrArg some (by kernel_rfl))
  f317 := Tryz.func288.trans (congrArg some (by kernel_rfl))
  f318 := Tryz.func290.trans (congrArg some (by kernel_rfl))
  f319 := Tryz.func291.trans (congrArg some (by kernel_rfl))
  f320 := Tryz.func292.trans (congrArg some (by kernel_rfl))
  f337 := Tryz.func323.trans (congrArg some (by kernel_rfl))
  f338 := Tryz.func324.trans (congrArg some (by kernel_rfl))
  t0 := Tryz.underlying0
  a0 := Tryz.isAgg0
  z0 := Tryz.sizeOf0
  v0 := Tryz.zeroValue0
  t2 := Tryz.underlying2
  a2 := Tryz.isAgg2
  z2 := Tryz.sizeOf2
  v2 := Tryz.zeroValue2
  t3 := Tryz.underlying3
  a3 := Tryz.isAgg3
  z3 := Tryz.sizeOf3
  v3 := Tryz.zeroValue3
  t4 := Tryz.underlying4
  a4 := Tryz.isAgg4
  z4 := Tryz.sizeOf4
  v4 := Tryz.zeroValue4
  t5 := Tryz.underlying5
  a5 := Tryz.isAgg5
  z5 := Tryz.sizeOf5
  v5 := Tryz.zeroValue5
  t9 := Tryz.underlying9
  a9 := Tryz.isAgg9
  z9 := Tryz.sizeOf9
  v9 := Tryz.zeroValue9
  t20 := Tryz.underlying20
  a20 := Tryz.isAgg20
  z20 := Tryz.sizeOf20
  v20 := Tryz.zeroValue20
  t37 := Tryz.underlying91
  a37 := Tryz.isAgg91
  z37 := Tryz.sizeOf91
  v37 := Tryz.zeroValue91
  t46 := Tryz.underlying92
  a46 := Tryz.isAgg92
  z46 := Tryz.sizeOf92
  v46 := Tryz.zeroValue92
  t51 := Tryz.underlying226
  a51 := Tryz.isAgg226
  z51 := Tryz.sizeOf226
  v51 := Tryz.zeroValue226
  t53 := Tryz.underlying213
  a53 := Tryz.isAgg213
  z53 := Tryz.sizeOf213
  v53 := Tryz.zeroValue213
  t171 := Tryz.underlying212
  a171 := Tryz.isAgg212
  z171 := Tryz.sizeOf212
  v171 := Tryz.zeroValue212
  t173 := Tryz.underlying216
  a173 := Tryz.isAgg216
  z173 := Tryz.sizeOf216
  v173 := Tryz.zeroValue216
  t212 := Tryz.underlying225
  a212 := Tryz.isAgg225
  z212 := Tryz.sizeOf225
  v212 := Tryz.zeroValue225
  t213 := Tryz.underlying227
  a213 := Tryz.isAgg227
  z213 := Tryz.sizeOf227
  t232 := Tryz.underlying240
  a232 := Tryz.isAgg240
  z232 := Tryz.sizeOf240
  v232 := Tryz.zeroValue240
  t233 := Tryz.underlying241
  a233 := Tryz.isAgg241
  z233 := Tryz.sizeOf241
  v233 := Tryz.zeroValue241
  g17 := by kernel_rfl
  g18 := by kernel_rfl
  g19 := by kernel_rfl }
open Go.RowKit Go.Sort Go.Lib in
theorem Tryz.strconv_Itoa_small (i : Nat) (hi : i < 100) (w : World) :
    Calls Tryz.prog 164 #[.int .i64 i] w fun e w' => e = .returned (.string ⟨(Lib.decDigits i).toArray⟩) ∧ w' = w := Any.strconv_Itoa_small Tryz.lays171 i hi w
end Go.Proofs.YthfofjkfbhahoaaGreatDoor
end
section
namespace Go.Proofs.YthfofjkfbhahoaaGreatDoor
open Go.RowKit
set_option linter.unusedSimpArgs false
namespace Byt
/-- how a text names a register -/
def regName (n : Nat) : List UInt8 := 120 :: Lib.decDigits n
end Byt
theorem add_str {a b c : ByteArray} (h : a ++ b = c) (hl : a.size + b.size ≤ 100000) (w : World) : (Op.stringOp .add a b).run Tryz.prog w = .ok (.string c) w := by
  rw [← h]; exact run_string_add_sum w a b (by omega)
theorem mk_app (x y : List UInt8) : (⟨x.toArray⟩ : ByteArray) ++ ⟨y.toArray⟩ = ⟨(x ++ y).toArray⟩ := ByteArray.mk_append_mk x y
theorem names_short : ((List.range 100).all fun n => decide ((Lib.decDigits n).length ≤ 10)) = true := by decide +kernel
set_option maxHeartbeats 400000 in
theorem a_registerName (n : Nat) (hn : n < 100) (w : World) :
    Calls Tryz.prog 220 #[.int .i64 n] w fun e w' => e = .returned (Byt.strV (Byt.regName n)) ∧ w' = w := by
  have hlen := List.all_eq_true.1 names_short n (by simpa using hn)
  rw [decide_eq_true_eq] at hlen
  obtain ⟨D, hD⟩ : ∃ D : ByteArray, D = ⟨(Lib.decDigits n).toArray⟩ := ⟨_, rfl⟩
  obtain ⟨X, hX⟩ : ∃ X : ByteArray, X = ⟨(Byt.regName n).toArray⟩ := ⟨_, rfl⟩
  have hadd : ∀ w, (Op.stringOp .add ⟨#[120]⟩ D).run Tryz.prog w = .ok (.string X) w := fun w => add_str (a := ⟨#[120]⟩) (b := D) (c := X) (by rw [hD, hX]; exact mk_app [120] _) (by rw [hD]; simp [ByteArray.size]; omega) w
  have HX := hide1 hX
  have HD := hide1 hD
  clear hX hD hlen
  go_enter Tryz.func220, Tryz.ntmps220
  go_wp2_with fail
  refine (Tryz.strconv_Itoa_small n hn _).mono ?_
  rintro e w' ⟨rfl, rfl⟩
  rw [← HD.out]
  go_wp2
  go_ret
  exact ⟨by unfold Byt.strV; rw [← HX.out]; rfl, rfl⟩
end Go.Proofs.YthfofjkfbhahoaaGreatDoor
end
section
namespace Go.Proofs.YthfofjkfbhahoaaGreatDoor
open Go.RowKit
set_option linter.unusedSimpArgs false
/-- the cells of a list of strings -/
def StrsAt (w : World) (b o : Nat) (L : List (List UInt8)) : Prop := ∀ j (h : j < L.length), w.cell? ⟨b, o + j, none⟩ = some (Byt.strV L[j])
theorem StrsAt.below {w w' : World} {b o : Nat} {L : List (List UInt8)} (h : StrsAt w b o L) {n : Nat} (hb : Below n w w') (hn : b < n) : StrsAt w' b o L := fun j hj => by
  rw [hb.cell (p := ⟨b, o + j, none⟩) hn]; exact h j hj
theorem StrsAt.drop {w : World} {b o : Nat} {L : List (List UInt8)} (h : StrsAt w b o L) (k : Nat) : StrsAt w b (o + k) (L.drop k) := fun j hj => by
  have hj' : k + j < L.length := by simp at hj; omega
  have := h (k + j) hj'
  rw [List.getElem_drop, show o + k + j = o + (k + j) by omega]; exact this
theorem StrsAt.of_row {w : World} {base : Nat} {v : Value} {L : List (List UInt8)} (h : w.ownsRow base 9 1 v L.length (L.map Byt.strV)) (hn : v ≠ .slice none 0 0) :
    ∃ b cap, v = .slice (some ⟨b, 0, none⟩) L.length cap ∧ base ≤ b ∧ b < w.heap.size ∧ StrsAt w b 0 L := by
  rcases h.2 with ⟨hv, _⟩ | ⟨g, cap, cur, rfl, hb, hg, hrest⟩
  · exact absurd hv hn
  · refine ⟨g, cap, rfl, hb, (Array.getElem?_eq_some_iff.1 hg).1, fun j hj => ?_⟩
    rw [Nat.zero_add, h.cellAt j (by omega)]
    rw [List.getElem?_map, List.getElem?_eq_getElem hj]; rfl
theorem a_tokens' (s : ByteArray) (hs : s.size ≤ 5000) (w : World) :
    Calls Tryz.prog 145 #[.string s] w fun e w' => ∃ b cap, e = .returned (.slice (some ⟨b, 0, none⟩) (Byt.tok s.size s.data.toList).length cap) ∧ w.heap.size ≤ b ∧ b < w'.heap.size ∧ StrsAt w' b 0 (Byt.tok s.size s.data.toList) ∧ Below w.heap.size w w' := by
  refine (a_tokens s hs w).mono ?_
  rintro e w' ⟨v, rfl, hn, hown, hb⟩
  obtain ⟨b, cap, rfl, h1, h2, h3⟩ := StrsAt.of_row hown hn
  exact ⟨b, cap, rfl, h1, h2, h3, hb⟩
theorem u_tokens' (s : ByteArray) (hs : s.size ≤ 5000) (w : World) :
    Calls Tryz.prog 169 #[.string s] w fun e w' => ∃ b cap, e = .returned (.slice (some ⟨b, 0, none⟩) (Byt.tok s.size s.data.toList).length cap) ∧ w.heap.size ≤ b ∧ b < w'.heap.size ∧ StrsAt w' b 0 (Byt.tok s.size s.data.toList) ∧ Below w.heap.size w w' := by
  refine (u_tokens s hs w).mono ?_
  rintro e w' ⟨v, rfl, hn, hown, hb⟩
  obtain ⟨b, cap, rfl, h1, h2, h3⟩ := StrsAt.of_row hown hn
  exact ⟨b, cap, rfl, h1, h2, h3, hb⟩
set_option maxHeartbeats 400000 in
theorem a_tokenAt (b o cap : Nat) (L : List (List UInt8)) (_hL : L.length ≤ 5000) (a : Nat) (ha : a ≤ 10000) (w : World) (hw : Hid (StrsAt w b o L)) :
    Calls Tryz.prog 239 #[.slice (some ⟨b, o, none⟩) L.length cap, .int .i64 a] w fun e w' => e = .returned (Byt.strV (L[a]?.getD [])) ∧ w' = w := by
  by_cases h : a < L.length
  · have hc := hw.out a h
    rw [List.getElem?_eq_getElem h, Option.getD_some]
    obtain ⟨X, hX⟩ : ∃ X, X = Byt.strV L[a] := ⟨_, rfl⟩
    rw [← hX] at hc ⊢
    clear hX
    go_enter Tryz.func239, Tryz.ntmps239
    go_wp2
    go_ret
    exact ⟨rfl, rfl⟩
  · rw [List.getElem?_eq_none (by omega)]
    go_enter Tryz.func239, Tryz.ntmps239
    go_wp2
    go_ret
    exact ⟨rfl, rfl⟩
namespace Byt
/-- the register that a token names, looked for from n on -/
def regFrom (t : List UInt8) : Nat → Nat → Option Nat
  | 0, _ => none
  | f + 1, n => if t = regName n then some n else regFrom t f (n + 1)
def reg (t : List UInt8) : Option Nat := regFrom t 32 0
end Byt
theorem eq_str (s X : ByteArray) (l : List UInt8) (h : X = ⟨l.toArray⟩) : (s.toList == X.toList) = decide (s.data.toList = l) := by
  rw [Lib.toList_data, Lib.toList_data, h, Bool.eq_iff_iff]; simp
set_option maxHeartbeats 400000 in
theorem a_readRegister (s : ByteArray) (w : World) :
    Calls Tryz.prog 285 #[.string s] w fun e w' => e = .returned (.tuple #[.int .i64 ((Byt.reg s.data.toList).getD 0 : Nat), .bool (Byt.reg s.data.toList).isSome]) ∧ w' = w := by
  obtain ⟨T, hT⟩ : ∃ T, T = Byt.reg s.data.toList := ⟨_, rfl⟩
  rw [← hT]
  have HT := hide1 hT
  clear hT
  go_enter Tryz.func285, Tryz.ntmps285
  go_wp2
  go_loop [4] (fun d => ∃ i : Nat, i ≤ 32 ∧ d = .int .i64 i ∧ Hid (T = Byt.regFrom s.data.toList (32 - i) i)) (fun d => 32 - (intOf d).toNat)
  case atStart => exact ⟨0, by omega, rfl, HT⟩
  case round =>
    obtain ⟨i, hi0, rfl, hh⟩ := hrel
    by_cases hi : i < 32
    · obtain ⟨X, hX⟩ : ∃ X : ByteArray, X = ⟨(Byt.regName i).toArray⟩ := ⟨_, rfl⟩
      have hX' : Byt.strV (Byt.regName i) = .string X := by rw [hX]; rfl
      have he := eq_str s X _ hX
      have hv : T = if s.data.toList = Byt.regName i then some i else Byt.regFrom s.data.toList (32 - (i + 1)) (i + 1) := by
        rw [hh.out, show 32 - i = (32 - (i + 1)) + 1 by omega]; rfl
      by_cases hc : s.data.toList = Byt.regName i
      · rw [if_pos hc] at hv
        rw [decide_eq_true hc] at he
        have HV := hide1 hv
        have HX := hide1 hX'
        clear hX hX' hv hc hh HT
        go_wp2_with (go_at_call 220; refine (a_registerName i (by omega) _).mono ?_; rintro e w' ⟨rfl, rfl⟩; rw [HX.out])
        go_ret2
        exact ⟨by rw [HV.out]; rfl, rfl⟩
      · rw [if_neg hc] at hv
        rw [decide_eq_false hc] at he
        have HV := hide1 hv
        have HX := hide1 hX'
        clear hX hX' hv hc hh HT
        go_wp2_with (go_at_call 220; refine (a_registerName i (by omega) _).mono ?_; rintro e w' ⟨rfl, rfl⟩; rw [HX.out])
        go_round
        case rel => exact ⟨i + 1, by omega, by go_num, HV⟩
        case measure => simp [intOf]; omega
    · obtain rfl : i = 32 := by omega
      have hT : Hid (T = none) := hh
      clear hh HT
      go_wp2
      go_ret2
      exact ⟨by rw [hT.out]; rfl, rfl⟩
end Go.Proofs.YthfofjkfbhahoaaGreatDoor
end
section
namespace Go.Proofs.YthfofjkfbhahoaaGreatDoor
open Go.RowKit
set_option linter.unusedSimpArgs false
theorem dig_short (n : Nat) (h : n ≤ 1099511627776) : (Lib.decDigits n).length ≤ 30 := by
  have := Lib.itoa_length_le n (by omega) (by omega)
  rw [Lib.itoa_nonneg] at this; omega
theorem conv1 (c : Int) (w : World) : (convert 91 9 (.slice (some ⟨w.heap.size, 0, none⟩) 1 1)).run Tryz.prog (w.alloc (.cells #[.int .u8 c] 5)) = .ok (.string (strOfNums [c])) (w.alloc (.cells #[.int .u8 c] 5)) := by
  refine run_convert_bytes_arg _ 91 5 Tryz.underlying91 Tryz.underlying5 w.heap.size 0 1 1 [c] rfl (fun i hi => ?_) 9 Tryz.underlying9
  obtain rfl : i = 0 := by omega
  rw [cell_of_row _ _ _ #[.int .u8 c] 5 (0, 0) (heap_alloc_new w _)]; rfl
set_option maxHeartbeats 1000000 in
theorem u_dec1 (n : Nat) (h10 : n < 10) (w : World) :
    Calls Tryz.prog 116 #[.int .i64 n] w fun e w' => e = .returned (Byt.strV [UInt8.ofNat (48 + n)]) ∧ Below w.heap.size w w' := by
  have hb := conv1 (48 + n) w
  have hX : Byt.strV [UInt8.ofNat (48 + n)] = .string (strOfNums [48 + (n : Int)]) := by
    unfold strOfNums Byt.strV; rw [show (48 + (n : Int)) = ((48 + n : Nat) : Int) by omega]; rfl
  rw [hX]
  obtain ⟨X, hX'⟩ : ∃ X, X = strOfNums [48 + (n : Int)] := ⟨_, rfl⟩
  rw [← hX'] at hb ⊢
  clear hX hX'
  have h0 : decide ((n : Int) < 0) = false := by simp
  have h1 : decide ((n : Int) < 10) = true := by simp; omega
  have h2 : ((48 : Int) + n) % 256 = 48 + n := by omega
  have hmk : (Instr.buildSlice 91 1 #[(0, .int .u8 (48 + (n : Int)))]).run Tryz.prog w = .ok (.slice (some ⟨w.heap.size, 0, none⟩) 1 1) (w.alloc (.cells #[.int .u8 (48 + (n : Int))] 5)) := by kernel_rfl
  go_enter Tryz.func116, Tryz.ntmps116
  go_upto_region 5 with fail
  go_wp2
  go_ret
  exact ⟨rfl, (Below.refl _ _).alloc (Nat.le_refl _) _⟩
set_option maxHeartbeats 1000000 in
theorem u_dec : ∀ (n : Nat), n ≤ 1099511627776 → ∀ w : World,
    Calls Tryz.prog 116 #[.int .i64 n] w fun e w' => e = .returned (Byt.strV (Lib.decDigits n)) ∧ Below w.heap.size w w' := by
  intro n
  induction n using Nat.strongRecOn with
  | ind n ih =>
    intro hn w
    by_cases h10 : n < 10
    · rw [Lib.decDigits_one h10]
      exact u_dec1 n h10 w
    · obtain ⟨A, hA⟩ : ∃ A : ByteArray, A = ⟨(Lib.decDigits (n / 10)).toArray⟩ := ⟨_, rfl⟩
      obtain ⟨B, hB⟩ : ∃ B : ByteArray, B = ⟨(Lib.decDigits (n % 10)).toArray⟩ := ⟨_, rfl⟩
      obtain ⟨X, hX⟩ : ∃ X : ByteArray, X = ⟨(Lib.decDigits n).toArray⟩ := ⟨_, rfl⟩
      have hadd : ∀ w, (Op.stringOp .add A B).run Tryz.prog w = .ok (.string X) w := fun w => add_str (a := A) (b := B) (c := X) (by
          rw [hA, hB, hX, mk_app]; congr 2; rw [Lib.decDigits_one (show n % 10 < 10 by omega), Lib.decDigits.eq_def n, dif_neg h10]) (by rw [hA, hB]; have := dig_short (n / 10) (by omega); have := dig_short (n % 10) (by omega); simp [ByteArray.size]; omega) w
      have h1 := ih (n / 10) (by omega) (by omega)
      have h2 := ih (n % 10) (by omega) (by omega)
      rw [show Byt.strV (Lib.decDigits (n / 10)) = .string A by rw [hA]; rfl] at h1
      rw [show Byt.strV (Lib.decDigits (n % 10)) = .string B by rw [hB]; rfl] at h2
      rw [show Byt.strV (Lib.decDigits n) = .string X by rw [hX]; rfl]
      have H1 := hide1 h1
      have H2 := hide1 h2
      clear h1 h2 hA hB hX ih
      go_enter Tryz.func116, Tryz.ntmps116
      go_wp2_with fail
      rw [show (n : Int) / 10 = ((n / 10 : Nat) : Int) by omega]
      refine (H1.out _).mono ?_
      rintro e w1 ⟨rfl, hb1⟩
      clear H1
      go_wp2_with fail
      rw [show (n : Int) % 10 = ((n % 10 : Nat) : Int) by omega]
      refine (H2.out _).mono ?_
      rintro e w2 ⟨rfl, hb2⟩
      clear H2
      go_wp2
      go_ret
      exact ⟨rfl, hb1.trans (hb2.mono hb1.size)⟩
set_option maxHeartbeats 1000000 in
theorem u_decimal (v : Int) (h0 : -1099511627776 ≤ v) (h1 : v ≤ 1099511627776) (w : World) :
    Calls Tryz.prog 116 #[.int .i64 v] w fun e w' => e = .returned (Byt.strV (Lib.itoa v)) ∧ Below w.heap.size w w' := by
  by_cases hv : v < 0
  · obtain ⟨n, hn⟩ : ∃ n : Nat, v = -(n : Int) := ⟨v.natAbs, by omega⟩
    subst hn
    obtain ⟨B, hB⟩ : ∃ B : ByteArray, B = ⟨(Lib.decDigits n).toArray⟩ := ⟨_, rfl⟩
    obtain ⟨X, hX⟩ : ∃ X : ByteArray, X = ⟨(Lib.itoa (-(n : Int))).toArray⟩ := ⟨_, rfl⟩
    have hadd : ∀ w, (Op.stringOp .add ⟨#[45]⟩ B).run Tryz.prog w = .ok (.string X) w := fun w => add_str (a := ⟨#[45]⟩) (b := B) (c := X) (by
      rw [hB, hX, Lib.itoa_neg n (by omega)]; exact mk_app [45] _) (by rw [hB]; have := dig_short n (by omega); simp [ByteArray.size]; omega) w
    have h2 := u_dec n (by omega)
    rw [show Byt.strV (Lib.decDigits n) = .string B by rw [hB]; rfl] at h2
    rw [show Byt.strV (Lib.itoa (-(n : Int))) = .string X by rw [hX]; rfl]
    have H2 := hide1 h2
    clear h2 hB hX
    have hn1 : 1 ≤ n := by omega
    have hn2 : n ≤ 1099511627776 := by omega
    clear hv h0 h1
    go_enter Tryz.func116, Tryz.ntmps116
    go_wp2_with fail
    refine (H2.out _).mono ?_
    rintro e w2 ⟨rfl, hb2⟩
    clear H2
    go_wp2
    go_ret
    exact ⟨rfl, hb2⟩
  · obtain ⟨n, rfl⟩ : ∃ n : Nat, v = (n : Int) := ⟨v.toNat, by omega⟩
    rw [Lib.itoa_nonneg]
    exact u_dec n (by omega) w
set_option maxHeartbeats 400000 in
theorem u_register (s : ByteArray) (w : World) :
    Calls Tryz.prog 246 #[.string s] w fun e w' => e = .returned (.tuple #[.int .i64 ((Byt.reg s.data.toList).getD 0 : Nat), .bool (Byt.reg s.data.toList).isSome]) ∧ Below w.heap.size w w' := by
  obtain ⟨T, hT⟩ : ∃ T, T = Byt.reg s.data.toList := ⟨_, rfl⟩
  rw [← hT]
  have HT := hide1 hT
  clear hT
  go_enter Tryz.func246, Tryz.ntmps246
  go_wp2
  go_loopw [4] (fun d wr => ∃ i : Nat, i ≤ 32 ∧ d = .int .i64 i ∧ Below w.heap.size w wr ∧ Hid (T = Byt.regFrom s.data.toList (32 - i) i)) (fun d _ => 32 - (intOf d).toNat)
  case atStart => exact ⟨0, by omega, rfl, Below.refl _ _, HT⟩
  case round =>
    obtain ⟨i, hi0, rfl, hb, hh⟩ := hrel
    by_cases hi : i < 32
    · obtain ⟨D, hD⟩ : ∃ D : ByteArray, D = ⟨(Lib.decDigits i).toArray⟩ := ⟨_, rfl⟩
      obtain ⟨X, hX⟩ : ∃ X : ByteArray, X = ⟨(Byt.regName i).toArray⟩ := ⟨_, rfl⟩
      have hadd : ∀ w, (Op.stringOp .add ⟨#[120]⟩ D).run Tryz.prog w = .ok (.string X) w := fun w => add_str (a := ⟨#[120]⟩) (b := D) (c := X) (by
        rw [hD, hX]; exact mk_app [120] _) (by rw [hD]; have := dig_short i (by omega); simp [ByteArray.size]; omega) w
      have hX' : Byt.strV (Lib.decDigits i) = .string D := by rw [hD]; rfl
      have he := eq_str s X _ hX
      have hv : T = if s.data.toList = Byt.regName i then some i else Byt.regFrom s.data.toList (32 - (i + 1)) (i + 1) := by
        rw [hh.out, show 32 - i = (32 - (i + 1)) + 1 by omega]; rfl
      by_cases hc : s.data.toList = Byt.regName i
      · rw [if_pos hc] at hv
        rw [decide_eq_true hc] at he
        have HV := hide1 hv
        have HX := hide1 hX'
        clear hX hX' hv hc hh HT hD
        go_wp2_with (go_at_call 116; refine (u_dec i (by omega) _).mono ?_; rintro e w' ⟨rfl, hb'⟩; rw [HX.out])
        go_ret2
        exact ⟨by rw [HV.out]; rfl, hb.trans (hb'.mono hb.size)⟩
      · rw [if_neg hc] at hv
        rw [decide_eq_false hc] at he
        have HV := hide1 hv
        have HX := hide1 hX'
        clear hX hX' hv hc hh HT hD
        go_wp2_with (go_at_call 116; refine (u_dec i (by omega) _).mono ?_; rintro e w' ⟨rfl, hb'⟩; rw [HX.out])
        go_roundw
        case rel => exact ⟨i + 1, by omega, by go_num, hb.trans (hb'.mono hb.size), HV⟩
        case measure => simp [intOf]; omega
    · obtain rfl : i = 32 := by omega
      have hT : Hid (T = none) := hh
      clear hh HT
      go_wp2
      go_ret2
      exact ⟨by rw [hT.out]; rfl, hb⟩
end Go.Proofs.YthfofjkfbhahoaaGreatDoor
end
