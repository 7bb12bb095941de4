import Derived.Test.YthfofjkfbhahoaaGreatDoorProg
import Derived.WalkKit
import Derived.ProofKit
import Derived.OpenShut
import Derived.WalkLawsBesides
import Derived.Laws.BytesArg
import Derived.Deep.Light
import Derived.WalkSmall
section
namespace Go.Proofs.YthfofjkfbhahoaaGreatDoor.Nm
def nameLast (op : Int) : ByteArray :=
  bif op == 55 then ⟨#[97, 109, 111, 97, 110, 100, 46, 119]⟩ else
  bif op == 56 then ⟨#[97, 109, 111, 111, 114, 46, 119]⟩ else
  bif op == 57 then ⟨#[97, 109, 111, 109, 105, 110, 46, 119]⟩ else
  bif op == 58 then ⟨#[97, 109, 111, 109, 97, 120, 46, 119]⟩ else
  bif op == 59 then ⟨#[97, 109, 111, 109, 105, 110, 117, 46, 119]⟩ else
  bif op == 60 then ⟨#[97, 109, 111, 109, 97, 120, 117, 46, 119]⟩ else
  bif op == 61 then ⟨#[99, 115, 114, 114, 119]⟩ else
  bif op == 62 then ⟨#[99, 115, 114, 114, 115]⟩ else
  bif op == 63 then ⟨#[99, 115, 114, 114, 99]⟩ else
  bif op == 64 then ⟨#[99, 115, 114, 114, 119, 105]⟩ else
  bif op == 65 then ⟨#[99, 115, 114, 114, 115, 105]⟩ else
  bif op == 66 then ⟨#[99, 115, 114, 114, 99, 105]⟩ else
  bif op == 67 then ⟨#[109, 114, 101, 116]⟩ else
  bif op == 68 then ⟨#[115, 114, 101, 116]⟩ else
  bif op == 69 then ⟨#[119, 102, 105]⟩ else
  bif op == 70 then ⟨#[115, 102, 101, 110, 99, 101, 46, 118, 109, 97]⟩ else
  bif op == 71 then ⟨#[46, 119, 111, 114, 100]⟩ else
  bif op == 72 then ⟨#[46, 104, 97, 108, 102]⟩ else
  ⟨#[]⟩
def nameFourth (op : Int) : ByteArray :=
  bif op == 37 then ⟨#[97, 110, 100]⟩ else
  bif op == 38 then ⟨#[102, 101, 110, 99, 101]⟩ else
  bif op == 39 then ⟨#[102, 101, 110, 99, 101, 46, 105]⟩ else
  bif op == 40 then ⟨#[101, 99, 97, 108, 108]⟩ else
  bif op == 41 then ⟨#[101, 98, 114, 101, 97, 107]⟩ else
  bif op == 42 then ⟨#[109, 117, 108]⟩ else
  bif op == 43 then ⟨#[109, 117, 108, 104]⟩ else
  bif op == 44 then ⟨#[109, 117, 108, 104, 115, 117]⟩ else
  bif op == 45 then ⟨#[109, 117, 108, 104, 117]⟩ else
  bif op == 46 then ⟨#[100, 105, 118]⟩ else
  bif op == 47 then ⟨#[100, 105, 118, 117]⟩ else
  bif op == 48 then ⟨#[114, 101, 109]⟩ else
  bif op == 49 then ⟨#[114, 101, 109, 117]⟩ else
  bif op == 50 then ⟨#[108, 114, 46, 119]⟩ else
  bif op == 51 then ⟨#[115, 99, 46, 119]⟩ else
  bif op == 52 then ⟨#[97, 109, 111, 115, 119, 97, 112, 46, 119]⟩ else
  bif op == 53 then ⟨#[97, 109, 111, 97, 100, 100, 46, 119]⟩ else
  bif op == 54 then ⟨#[97, 109, 111, 120, 111, 114, 46, 119]⟩ else
  nameLast op
def nameThird (op : Int) : ByteArray :=
  bif op == 28 then ⟨#[97, 100, 100]⟩ else
  bif op == 29 then ⟨#[115, 117, 98]⟩ else
  bif op == 30 then ⟨#[115, 108, 108]⟩ else
  bif op == 31 then ⟨#[115, 108, 116]⟩ else
  bif op == 32 then ⟨#[115, 108, 116, 117]⟩ else
  bif op == 33 then ⟨#[120, 111, 114]⟩ else
  bif op == 34 then ⟨#[115, 114, 108]⟩ else
  bif op == 35 then ⟨#[115, 114, 97]⟩ else
  bif op == 36 then ⟨#[111, 114]⟩ else
  nameFourth op
def nameSecond (op : Int) : ByteArray :=
  bif op == 19 then ⟨#[97, 100, 100, 105]⟩ else
  bif op == 20 then ⟨#[115, 108, 116, 105]⟩ else
  bif op == 21 then ⟨#[115, 108, 116, 105, 117]⟩ else
  bif op == 22 then ⟨#[120, 111, 114, 105]⟩ else
  bif op == 23 then ⟨#[111, 114, 105]⟩ else
  bif op == 24 then ⟨#[97, 110, 100, 105]⟩ else
  bif op == 25 then ⟨#[115, 108, 108, 105]⟩ else
  bif op == 26 then ⟨#[115, 114, 108, 105]⟩ else
  bif op == 27 then ⟨#[115, 114, 97, 105]⟩ else
  nameThird op
def name (op : Int) : ByteArray :=
  bif op == 1 then ⟨#[108, 117, 105]⟩ else
  bif op == 2 then ⟨#[97, 117, 105, 112, 99]⟩ else
  bif op == 3 then ⟨#[106, 97, 108]⟩ else
  bif op == 4 then ⟨#[106, 97, 108, 114]⟩ else
  bif op == 5 then ⟨#[98, 101, 113]⟩ else
  bif op == 6 then ⟨#[98, 110, 101]⟩ else
  bif op == 7 then ⟨#[98, 108, 116]⟩ else
  bif op == 8 then ⟨#[98, 103, 101]⟩ else
  bif op == 9 then ⟨#[98, 108, 116, 117]⟩ else
  bif op == 10 then ⟨#[98, 103, 101, 117]⟩ else
  bif op == 11 then ⟨#[108, 98]⟩ else
  bif op == 12 then ⟨#[108, 104]⟩ else
  bif op == 13 then ⟨#[108, 119]⟩ else
  bif op == 14 then ⟨#[108, 98, 117]⟩ else
  bif op == 15 then ⟨#[108, 104, 117]⟩ else
  bif op == 16 then ⟨#[115, 98]⟩ else
  bif op == 17 then ⟨#[115, 104]⟩ else
  bif op == 18 then ⟨#[115, 119]⟩ else
  nameSecond op
def shape (op : Int) : ByteArray :=
  bif op == 1 || op == 2 then ⟨#[100, 105]⟩ else
  bif op == 3 then ⟨#[100, 106]⟩ else
  bif op == 4 then ⟨#[100, 109]⟩ else
  bif decide (5 ≤ op) && decide (op ≤ 10) then ⟨#[115, 116, 106]⟩ else
  bif decide (11 ≤ op) && decide (op ≤ 15) then ⟨#[100, 109]⟩ else
  bif decide (16 ≤ op) && decide (op ≤ 18) then ⟨#[116, 109]⟩ else
  bif (decide (19 ≤ op) && decide (op ≤ 27)) || op == 38 || op == 39 || op == 50 then ⟨#[100, 115, 105]⟩ else
  bif (decide (28 ≤ op) && decide (op ≤ 37)) || (decide (42 ≤ op) && decide (op ≤ 49)) then ⟨#[100, 115, 116]⟩ else
  bif decide (51 ≤ op) && decide (op ≤ 60) then ⟨#[100, 116, 115, 105]⟩ else
  bif decide (61 ≤ op) && decide (op ≤ 63) then ⟨#[100, 105, 115]⟩ else
  bif decide (64 ≤ op) && decide (op ≤ 66) then ⟨#[100, 105, 117]⟩ else
  bif op == 70 then ⟨#[115, 116]⟩ else
  bif op == 71 || op == 72 then ⟨#[105]⟩ else ⟨#[]⟩
end Go.Proofs.YthfofjkfbhahoaaGreatDoor.Nm
end
section
namespace Go.Proofs.YthfofjkfbhahoaaGreatDoor
open Go.RowKit
set_option maxHeartbeats 1000000 in
theorem a_nameLast (op : Int) (w : World) :
    Calls Tryz.prog 287 #[.int .i64 op] w fun e w' => e = .returned (.string (Nm.nameLast op)) ∧ w' = w := by
  go_enter Tryz.func287, Tryz.ntmps287
  go_wp2
  all_goals go_ret
  all_goals exact ⟨by simp [Nm.nameLast, *], rfl⟩
set_option maxHeartbeats 1000000 in
theorem a_nameFourth (op : Int) (w : World) :
    Calls Tryz.prog 264 #[.int .i64 op] w fun e w' => e = .returned (.string (Nm.nameFourth op)) ∧ w' = w := by
  go_enter Tryz.func264, Tryz.ntmps264
  go_wp2_with (go_at_call 287; refine (a_nameLast op _).mono ?_; rintro e w' ⟨rfl, rfl⟩)
  all_goals go_ret
  all_goals exact ⟨by simp [Nm.nameFourth, *], rfl⟩
set_option maxHeartbeats 1000000 in
theorem a_nameThird (op : Int) (w : World) :
    Calls Tryz.prog 242 #[.int .i64 op] w fun e w' => e = .returned (.string (Nm.nameThird op)) ∧ w' = w := by
  go_enter Tryz.func242, Tryz.ntmps242
  go_wp2_with (go_at_call 264; refine (a_nameFourth op _).mono ?_; rintro e w' ⟨rfl, rfl⟩)
  all_goals go_ret
  all_goals exact ⟨by simp [Nm.nameThird, *], rfl⟩
set_option maxHeartbeats 1000000 in
theorem a_nameSecond (op : Int) (w : World) :
    Calls Tryz.prog 218 #[.int .i64 op] w fun e w' => e = .returned (.string (Nm.nameSecond op)) ∧ w' = w := by
  go_enter Tryz.func218, Tryz.ntmps218
  go_wp2_with (go_at_call 242; refine (a_nameThird op _).mono ?_; rintro e w' ⟨rfl, rfl⟩)
  all_goals go_ret
  all_goals exact ⟨by simp [Nm.nameSecond, *], rfl⟩
set_option maxHeartbeats 1000000 in
theorem a_Name (op : Int) (w : World) :
    Calls Tryz.prog 163 #[.int .i64 op] w fun e w' => e = .returned (.string (Nm.name op)) ∧ w' = w := by
  go_enter Tryz.func163, Tryz.ntmps163
  go_wp2_with (go_at_call 218; refine (a_nameSecond op _).mono ?_; rintro e w' ⟨rfl, rfl⟩)
  all_goals go_ret
  all_goals exact ⟨by simp [Nm.name, *], rfl⟩
set_option maxHeartbeats 1000000 in
theorem u_nameLast (op : Int) (w : World) :
    Calls Tryz.prog 269 #[.int .i64 op] w fun e w' => e = .returned (.string (Nm.nameLast op)) ∧ w' = w := by
  go_enter Tryz.func269, Tryz.ntmps269
  go_wp2
  all_goals go_ret
  all_goals exact ⟨by simp [Nm.nameLast, *], rfl⟩
set_option maxHeartbeats 1000000 in
theorem u_nameFourth (op : Int) (w : World) :
    Calls Tryz.prog 244 #[.int .i64 op] w fun e w' => e = .returned (.string (Nm.nameFourth op)) ∧ w' = w := by
  go_enter Tryz.func244, Tryz.ntmps244
  go_wp2_with (go_at_call 269; refine (u_nameLast op _).mono ?_; rintro e w' ⟨rfl, rfl⟩)
  all_goals go_ret
  all_goals exact ⟨by simp [Nm.nameFourth, *], rfl⟩
set_option maxHeartbeats 1000000 in
theorem u_nameThird (op : Int) (w : World) :
    Calls Tryz.prog 221 #[.int .i64 op] w fun e w' => e = .returned (.string (Nm.nameThird op)) ∧ w' = w := by
  go_enter Tryz.func221, Tryz.ntmps221
  go_wp2_with (go_at_call 244; refine (u_nameFourth op _).mono ?_; rintro e w' ⟨rfl, rfl⟩)
  all_goals go_ret
  all_goals exact ⟨by simp [Nm.nameThird, *], rfl⟩
set_option maxHeartbeats 1000000 in
theorem u_nameSecond (op : Int) (w : World) :
    Calls Tryz.prog 168 #[.int .i64 op] w fun e w' => e = .returned (.string (Nm.nameSecond op)) ∧ w' = w := by
  go_enter Tryz.func168, Tryz.ntmps168
  go_wp2_with (go_at_call 221; refine (u_nameThird op _).mono ?_; rintro e w' ⟨rfl, rfl⟩)
  all_goals go_ret
  all_goals exact ⟨by simp [Nm.nameSecond, *], rfl⟩
set_option maxHeartbeats 1000000 in
theorem u_Name (op : Int) (w : World) :
    Calls Tryz.prog 117 #[.int .i64 op] w fun e w' => e = .returned (.string (Nm.name op)) ∧ w' = w := by
  go_enter Tryz.func117, Tryz.ntmps117
  go_wp2_with (go_at_call 168; refine (u_nameSecond op _).mono ?_; rintro e w' ⟨rfl, rfl⟩)
  all_goals go_ret
  all_goals exact ⟨by simp [Nm.name, *], rfl⟩
end Go.Proofs.YthfofjkfbhahoaaGreatDoor
end
section
namespace Go.Proofs.YthfofjkfbhahoaaGreatDoor
open Go.RowKit
set_option linter.unusedSimpArgs false
/-- the n lowest bytes of v -/
def leL (v : Int) : Nat → List Int
  | 0 => []
  | n + 1 => leL v n ++ [v / 256 ^ n % 256]
theorem Tryz.info5 : (Tryz.prog.info? 5).map (fun i => (i.zero, i.size, i.bytes)) = some (some (.int .u8 0), 1, 1) := by kernel_rfl
theorem own_string {P : Program} {w : World} {base k : Nat} {b : Value} {xs : List Int} (src dst : TypeId) {e : TypeId} (hs : P.underlying src = some (.slice e)) (he : P.underlying e = some (.int .u8)) (hd : P.underlying dst = some .string)
    (h : w.ownsRow base e 1 b k (xs.map (Value.int .u8))) : (convert src dst b).run P w = .ok (.string (strOfNums xs)) w := by
  have hl := h.1
  rcases h.2 with ⟨rfl, rfl⟩ | ⟨g, cap, cur, rfl, hb, hg, rest⟩
  · have : xs = [] := by simpa using hl
    subst this
    exact run_convert_bytes_nil w src e hs he 0 0 dst hd
  · simp at hl
    refine run_convert_bytes_arg w src e hs he g 0 k cap xs hl (fun i hi => ?_) dst hd
    have := h.cells (g := g) rfl i (.int .u8 (xs.getD i 0)) (by simp [List.getElem?_map, List.getD, List.getElem?_eq_getElem (show i < xs.length by omega)])
    have hplain : (⟨g, 0, none⟩ : Addr).add i = ⟨g, 0 + i, none⟩ := by unfold Addr.add; split <;> simp_all
    rw [hplain] at this
    exact this
set_option maxHeartbeats 2000000 in
theorem a_Le (v : Int) (n : Nat) (hn : n ≤ 8) (w : World) :
    Calls Tryz.prog 150 #[.int .i64 v, .int .i64 n] w fun e w' => e = .returned (.string (strOfNums (leL v n))) ∧ Below w.heap.size w w' := by
  have hmk : ∀ w, (Instr.makeSlice 91 (.int .i64 0) (.int .i64 8)).run Tryz.prog w = .ok (.slice (some ⟨w.heap.size, 0, none⟩) 0 8) (w.alloc (.cells #[.int .u8 0, .int .u8 0, .int .u8 0, .int .u8 0, .int .u8 0, .int .u8 0, .int .u8 0, .int .u8 0] 5)) := fun _ => by kernel_rfl
  obtain ⟨i0, hi, hz0, hz1, hz2⟩ := info_parts Tryz.info5
  go_enter Tryz.func150, Tryz.ntmps150
  go_wp2
  go_loopw [0, 5, 6] (fun x b i wr => ∃ k : Nat, k ≤ n ∧ i = .int .i64 k ∧ wr.ownsRow w.heap.size 5 1 b k ((leL v k).map (Value.int .u8)) ∧ Below w.heap.size w wr ∧ (∃ y, x = .int .i64 y ∧ Hid (y = v / 256 ^ k))) (fun _ _ i _ => n - (intOf i).toNat)
  case atStart => 
    refine ⟨0, Nat.zero_le _, rfl, World.ownsRow_made w _ 8 (Nat.le_refl _) (by unfold maxLen; omega) rfl, (Below.refl _ _).alloc (Nat.le_refl _) _, v, rfl, (by simp : v = v / 256 ^ 0)⟩
  case round =>
    obtain ⟨k, hk, rfl, hown, hb, y, rfl, hy⟩ := hrel
    by_cases hlt : k < n
    · have h8 : (k : Int) < 8 := by omega
      have hlt' : (k : Int) < n := by omega
      have hbs := hb.size
      have hrow : ∀ j, u5.ownBlock = some j → w.heap.size ≤ j := fun j hj => (hown.lt j hj).1
      go_wp2_with (at_builtin; refine wpList_append_own _ rfl (.tmp 17) (.tmp 20) 91 rfl w.heap.size 5 i0 (.int .u8 0) 1 1 Tryz.underlying91 hi hz0 hz1 hz2 rfl (by decide) _ _ _ rfl (hown.alloc _) ⟨wr.heap.size, 0, none⟩ 1 1 [.int .u8 (y % 256)] rfl rfl ?c1 ?c2 ?c3 ?c4 ?c5 ?_)
      case c1 =>
        intro j u hj
        match j, hj with
        | 0, hj => simp at hj; subst hj; simp [Addr.add]
      case c2 => intro u hu; simp at hu; subst hu; rfl
      case c3 => unfold maxLen; omega
      case c4 => omega
      case c5 => simp; omega
      intro v' w1 hown' hgrow _
      clear hown
      go_wp2
      go_roundw
      case rel =>
        refine ⟨k + 1, by omega, by go_num, ?_, ?_, y / 256, rfl, ?_⟩
        · have e : (leL v (k + 1)).map (Value.int .u8) = (leL v k).map (Value.int .u8) ++ [Value.int .u8 (y % 256)] := by
            rw [hy.out]; simp [leL]
          rw [e]; exact hown'
        · exact (hb.alloc hbs _).grown hgrow (by simp; omega) hrow
        · show y / 256 = v / 256 ^ (k + 1)
          rw [hy.out, Int.pow_succ]; exact Int.ediv_ediv_of_nonneg (Int.pow_nonneg (by decide))
      case measure => simp [intOf]; omega
    · have h8 : ¬ (k : Int) < n := by omega
      obtain rfl : k = n := by omega
      have hc := own_string 91 9 Tryz.underlying91 Tryz.underlying5 Tryz.underlying9 hown
      rcases hown.2 with ⟨rfl, h0⟩ | ⟨g, cap, cur, rfl, hg⟩
      · go_wp2
        go_ret
        exact ⟨rfl, hb⟩
      · go_wp2
        go_ret
        exact ⟨rfl, hb⟩
end Go.Proofs.YthfofjkfbhahoaaGreatDoor
end
section
namespace Go.Proofs.YthfofjkfbhahoaaGreatDoor
open Go.RowKit
set_option linter.unusedSimpArgs false
set_option maxHeartbeats 2000000 in
theorem u_Le (v : Int) (n : Nat) (hn : n ≤ 8) (w : World) :
    Calls Tryz.prog 80 #[.int .i64 v, .int .i64 n] w fun e w' => e = .returned (.string (strOfNums (leL v n))) ∧ Below w.heap.size w w' := by
  have hmk : ∀ w, (Instr.makeSlice 91 (.int .i64 0) (.int .i64 8)).run Tryz.prog w = .ok (.slice (some ⟨w.heap.size, 0, none⟩) 0 8) (w.alloc (.cells #[.int .u8 0, .int .u8 0, .int .u8 0, .int .u8 0, .int .u8 0, .int .u8 0, .int .u8 0, .int .u8 0] 5)) := fun _ => by kernel_rfl
  obtain ⟨i0, hi, hz0, hz1, hz2⟩ := info_parts Tryz.info5
  go_enter Tryz.func80, Tryz.ntmps80
  go_wp2
  go_loopw [0, 5, 6] (fun x b i wr => ∃ k : Nat, k ≤ n ∧ i = .int .i64 k ∧ wr.ownsRow w.heap.size 5 1 b k ((leL v k).map (Value.int .u8)) ∧ Below w.heap.size w wr ∧ (∃ y, x = .int .i64 y ∧ Hid (y = v / 256 ^ k))) (fun _ _ i _ => n - (intOf i).toNat)
  case atStart => 
    refine ⟨0, Nat.zero_le _, rfl, World.ownsRow_made w _ 8 (Nat.le_refl _) (by unfold maxLen; omega) rfl, (Below.refl _ _).alloc (Nat.le_refl _) _, v, rfl, (by simp : v = v / 256 ^ 0)⟩
  case round =>
    obtain ⟨k, hk, rfl, hown, hb, y, rfl, hy⟩ := hrel
    by_cases hlt : k < n
    · have h8 : (k : Int) < 8 := by omega
      have hlt' : (k : Int) < n := by omega
      have hbs := hb.size
      have hrow : ∀ j, u5.ownBlock = some j → w.heap.size ≤ j := fun j hj => (hown.lt j hj).1
      go_wp2_with (at_builtin; refine wpList_append_own _ rfl (.tmp 17) (.tmp 20) 91 rfl w.heap.size 5 i0 (.int .u8 0) 1 1 Tryz.underlying91 hi hz0 hz1 hz2 rfl (by decide) _ _ _ rfl (hown.alloc _) ⟨wr.heap.size, 0, none⟩ 1 1 [.int .u8 (y % 256)] rfl rfl ?c1 ?c2 ?c3 ?c4 ?c5 ?_)
      case c1 =>
        intro j u hj
        match j, hj with
        | 0, hj => simp at hj; subst hj; simp [Addr.add]
      case c2 => intro u hu; simp at hu; subst hu; rfl
      case c3 => unfold maxLen; omega
      case c4 => omega
      case c5 => simp; omega
      intro v' w1 hown' hgrow _
      clear hown
      go_wp2
      go_roundw
      case rel =>
        refine ⟨k + 1, by omega, by go_num, ?_, ?_, y / 256, rfl, ?_⟩
        · have e : (leL v (k + 1)).map (Value.int .u8) = (leL v k).map (Value.int .u8) ++ [Value.int .u8 (y % 256)] := by
            rw [hy.out]; simp [leL]
          rw [e]; exact hown'
        · exact (hb.alloc hbs _).grown hgrow (by simp; omega) hrow
        · show y / 256 = v / 256 ^ (k + 1)
          rw [hy.out, Int.pow_succ]; exact Int.ediv_ediv_of_nonneg (Int.pow_nonneg (by decide))
      case measure => simp [intOf]; omega
    · have h8 : ¬ (k : Int) < n := by omega
      obtain rfl : k = n := by omega
      have hc := own_string 91 9 Tryz.underlying91 Tryz.underlying5 Tryz.underlying9 hown
      rcases hown.2 with ⟨rfl, h0⟩ | ⟨g, cap, cur, rfl, hg⟩
      · go_wp2
        go_ret
        exact ⟨rfl, hb⟩
      · go_wp2
        go_ret
        exact ⟨rfl, hb⟩
end Go.Proofs.YthfofjkfbhahoaaGreatDoor
end
section
namespace Go.Proofs.YthfofjkfbhahoaaGreatDoor.Pic
def okBit (x : UInt8) (b : Nat) : Bool := !(x == 48 && b == 1) && !(x == 49 && b == 0)
def fits : List UInt8 → Nat → Bool
  | [], _ => true
  | x :: q, w => okBit x (w % 2) && fits q (w / 2)
def val (m : UInt8 → Bool) : List UInt8 → Nat → Nat
  | [], _ => 0
  | x :: q, w => bif m x then w % 2 + 2 * val m q (w / 2) else val m q (w / 2)
def cnt (m : UInt8 → Bool) : List UInt8 → Nat
  | [] => 0
  | x :: q => bif m x then 1 + cnt m q else cnt m q
def isLet (x : UInt8) : Bool := decide (97 ≤ x.toNat) && decide (x.toNat ≤ 122)
def sum : List UInt8 → Nat → Nat
  | [], _ => 0
  | x :: q, w => (bif isLet x then (w % 2) * 2 ^ (x.toNat - 97) else 0) + sum q (w / 2)
def high : List UInt8 → Nat
  | [] => 0
  | x :: q => bif isLet x then max (2 ^ (x.toNat - 97)) (high q) else high q
theorem val_lt (m : UInt8 → Bool) : ∀ q w, val m q w < 2 ^ cnt m q
  | [], _ => by simp [val, cnt]
  | x :: q, w => by
    have h := val_lt m q (w / 2)
    cases hm : m x <;> simp [val, cnt, hm]
    · exact h
    · rw [Nat.pow_add]; omega
theorem div_pow_succ (w m : Nat) : w / 2 ^ (m + 1) = w / 2 ^ m / 2 := by
  rw [Nat.pow_succ, Nat.div_div_eq_div_mul]
/-- a bit that is added where there was none -/
theorem add_bit (N x e b : Nat) (hb : b ≤ 1) (h0 : N / 2 ^ x % 2 = 0) :
    (b * 2 ^ x + N) / 2 ^ e % 2 = if e = x then b else N / 2 ^ e % 2 := by
  -- N = a * 2^(x+1) + r, r < 2^x
  have hx : 0 < 2 ^ x := Nat.pow_pos (by decide)
  have hr : N % 2 ^ x < 2 ^ x := Nat.mod_lt _ hx
  have hN : N = 2 ^ x * (N / 2 ^ x) + N % 2 ^ x := (Nat.div_add_mod N (2 ^ x)).symm
  by_cases he : e = x
  · subst he
    rw [if_pos rfl, Nat.add_comm, Nat.add_mul_div_right _ _ hx]; omega
  · rw [if_neg he]
    rcases Nat.lt_or_gt_of_ne he with hl | hg
    · -- e < x
      obtain ⟨d, rfl⟩ : ∃ d, x = e + 1 + d := ⟨x - e - 1, by omega⟩
      have hp : (2:Nat) ^ (e + 1 + d) = 2 ^ e * (2 * 2 ^ d) := by rw [Nat.pow_add, Nat.pow_succ, Nat.mul_assoc]
      have he0 : 0 < 2 ^ e := Nat.pow_pos (by decide)
      rw [hp, show b * (2 ^ e * (2 * 2 ^ d)) = (2 * (b * 2 ^ d)) * 2 ^ e by ac_rfl, Nat.add_comm, Nat.add_mul_div_right _ _ he0]
      omega
    · -- e > x
      obtain ⟨d, rfl⟩ : ∃ d, e = x + 1 + d := ⟨e - x - 1, by omega⟩
      have hp : (2:Nat) ^ (x + 1 + d) = 2 ^ x * (2 * 2 ^ d) := by rw [Nat.pow_add, Nat.pow_succ, Nat.mul_assoc]
      rw [hp, ← Nat.div_div_eq_div_mul, ← Nat.div_div_eq_div_mul, ← Nat.div_div_eq_div_mul, ← Nat.div_div_eq_div_mul]
      rw [Nat.add_comm (b * 2 ^ x), Nat.add_mul_div_right _ _ hx]
      have : (N / 2 ^ x + b) / 2 = N / 2 ^ x / 2 := by omega
      rw [this]
/-- the letters of a picture are apart -/
def apart : List UInt8 → Bool
  | [] => true
  | x :: q => (!isLet x || !q.contains x) && apart q
theorem sum_bit : ∀ (q : List UInt8) (w : Nat) (y : UInt8), apart q = true → isLet y = true →
    (q.contains y = false → sum q w / 2 ^ (y.toNat - 97) % 2 = 0) ∧
    (∀ t (h : t < q.length), q[t] = y → sum q w / 2 ^ (y.toNat - 97) % 2 = w / 2 ^ t % 2)
  | [], w, y, _, _ => by simp [sum]
  | x :: q, w, y, ha, hy => by
    simp only [apart, Bool.and_eq_true, Bool.or_eq_true, Bool.not_eq_true'] at ha
    obtain ⟨hx, hq⟩ := ha
    have ih := sum_bit q (w / 2) y hq hy
    cases hl : isLet x with
    | false =>
      have hne : x ≠ y := by intro h; rw [h, hy] at hl; cases hl
      simp only [sum, hl, cond_false, Nat.zero_add]
      refine ⟨fun hc => ih.1 ?_, fun t ht he => ?_⟩
      · simp at hc ⊢; exact hc.2
      · cases t with
        | zero => exact absurd he hne
        | succ t =>
          have := ih.2 t (by simpa using ht) (by simpa using he)
          rw [this, div_pow_succ, Nat.div_div_eq_div_mul, Nat.div_div_eq_div_mul, Nat.mul_comm]
    | true =>
      have hxq : q.contains x = false := by rcases hx with h | h; · rw [hl] at h; cases h
                                            · exact h
      have h0 := (sum_bit q (w / 2) x hq hl).1 hxq
      simp only [sum, hl, cond_true]
      have hb : w % 2 ≤ 1 := by omega
      have key := add_bit (sum q (w / 2)) (x.toNat - 97) (y.toNat - 97) (w % 2) hb h0
      have hinj : y.toNat - 97 = x.toNat - 97 ↔ y = x := by
        simp [isLet] at hl hy
        constructor
        · intro h; apply UInt8.toNat_inj.1; omega
        · intro h; rw [h]
      rw [key]
      refine ⟨fun hc => ?_, fun t ht he => ?_⟩
      · have hne : y ≠ x := by intro h; simp [h] at hc
        rw [if_neg (by rw [hinj]; exact hne)]
        exact ih.1 (by simp at hc ⊢; exact hc.2)
      · cases t with
        | zero => simp at he; rw [if_pos (by rw [hinj]; exact he.symm)]; simp
        | succ t =>
          have hne : y ≠ x := by
            intro h
            have : q[t]'(by simpa using ht) = x := by simpa [h] using he
            have hm : x ∈ q := by rw [← this]; exact List.getElem_mem _
            simp at hxq; exact hxq hm
          rw [if_neg (by rw [hinj]; exact hne)]
          have := ih.2 t (by simpa using ht) (by simpa using he)
          rw [this, div_pow_succ, Nat.div_div_eq_div_mul, Nat.div_div_eq_div_mul, Nat.mul_comm]
/-- the most that the letters can weigh -/
def most : List UInt8 → Nat
  | [] => 0
  | x :: q => (bif isLet x then 2 ^ (x.toNat - 97) else 0) + most q
theorem sum_le_most : ∀ q w, sum q w ≤ most q
  | [], _ => by simp [sum, most]
  | x :: q, w => by
    have h := sum_le_most q (w / 2)
    have hb : w % 2 ≤ 1 := by omega
    cases hl : isLet x <;> simp only [sum, most, hl, cond_false, cond_true]
    · omega
    · have : w % 2 * 2 ^ (x.toNat - 97) ≤ 1 * 2 ^ (x.toNat - 97) := Nat.mul_le_mul_right _ hb
      omega
/-- the immediate: its highest letter perhaps negative -/
def imm (q : List UInt8) (neg : Bool) (w : Nat) : Int :=
  if neg = true ∧ high q ≤ sum q w then (sum q w : Int) - 2 * (high q : Int) else (sum q w : Int)
/-- the word of a picture: the lowest letter first -/
def draw : List UInt8 → Int → Int → Int → Int → Nat
  | [], _, _, _, _ => 0
  | x :: q, rd, rs1, rs2, im =>
    if x = 49 then 1 + 2 * draw q rd rs1 rs2 im
    else if x = 68 ∨ x = 66 then (rd % 2).toNat + 2 * draw q (rd / 2) rs1 rs2 im
    else if x = 83 then (rs1 % 2).toNat + 2 * draw q rd (rs1 / 2) rs2 im
    else if x = 84 then (rs2 % 2).toNat + 2 * draw q rd rs1 (rs2 / 2) im
    else if isLet x = true then (im / 2 ^ (x.toNat - 97) % 2).toNat + 2 * draw q rd rs1 rs2 im
    else 2 * draw q rd rs1 rs2 im
theorem draw_lt : ∀ q rd rs1 rs2 im, draw q rd rs1 rs2 im < 2 ^ q.length
  | [], _, _, _, _ => by simp [draw]
  | x :: q, rd, rs1, rs2, im => by
    have h1 := draw_lt q rd rs1 rs2 im
    have h2 := draw_lt q (rd / 2) rs1 rs2 im
    have h3 := draw_lt q rd (rs1 / 2) rs2 im
    have h4 := draw_lt q rd rs1 (rs2 / 2) im
    simp only [draw, List.length_cons, Nat.pow_succ]
    repeat' split
    all_goals omega
/-- every letter of the picture is known -/
def known (x : UInt8) : Bool := x == 48 || x == 49 || x == 68 || x == 66 || x == 83 || x == 84 || isLet x
theorem draw_read : ∀ (q : List UInt8) (w : Nat) (rd rs1 rs2 im : Int), q.all known = true → w < 2 ^ q.length → fits q w = true →
    rd % 2 ^ cnt (fun x => x == 68 || x == 66) q = val (fun x => x == 68 || x == 66) q w →
    rs1 % 2 ^ cnt (· == 83) q = val (· == 83) q w →
    rs2 % 2 ^ cnt (· == 84) q = val (· == 84) q w →
    (∀ t (h : t < q.length), isLet q[t] = true → im / 2 ^ (q[t].toNat - 97) % 2 = ((w / 2 ^ t % 2 : Nat) : Int)) →
    draw q rd rs1 rs2 im = w
  | [], w, _, _, _, _, _, hw, _, _, _, _, _ => by simp [draw] at *; omega
  | x :: q, w, rd, rs1, rs2, im, hk, hw, hf, hd, hs, ht, hi => by
    simp only [List.all_cons, Bool.and_eq_true] at hk
    simp only [fits, Bool.and_eq_true] at hf
    have hw2 : w / 2 < 2 ^ q.length := by simp [Nat.pow_succ] at hw; omega
    have hi' : ∀ t (h : t < q.length), isLet q[t] = true → im / 2 ^ (q[t].toNat - 97) % 2 = ((w / 2 / 2 ^ t % 2 : Nat) : Int) := by
      intro t h hl
      have := hi (t + 1) (by simpa using h) (by simpa using hl)
      simp only [List.getElem_cons_succ] at this
      rw [this, Nat.pow_succ, Nat.mul_comm, Nat.div_div_eq_div_mul]
    have step : ∀ (r : Int) (c : Nat) (v : Nat), r % 2 ^ (1 + c) = ((w % 2 + 2 * v : Nat) : Int) → (r % 2).toNat = w % 2 ∧ (r / 2) % 2 ^ c = (v : Int) := by
      intro r c v h
      rw [Int.pow_add] at h
      have hp : (0 : Int) < 2 ^ c := Int.pow_pos (by decide)
      have e1 : r % (2 ^ 1 * 2 ^ c) = r % 2 + 2 * (r / 2 % 2 ^ c) := by
        have := Int.emod_add_mul_ediv r 2
        have h3 := Int.emod_add_mul_ediv (r / 2) (2 ^ c)
        have h4 : r / 2 % 2 ^ c < 2 ^ c := Int.emod_lt_of_pos _ hp
        have h5 : 0 ≤ r / 2 % 2 ^ c := Int.emod_nonneg _ (by omega)
        have e2 : r = (r % 2 + 2 * (r / 2 % 2 ^ c)) + (2 ^ 1 * 2 ^ c) * (r / 2 / 2 ^ c) := by
          have : (2:Int) ^ 1 * 2 ^ c * (r / 2 / 2 ^ c) = 2 * (2 ^ c * (r / 2 / 2 ^ c)) := by rw [Int.pow_one, Int.mul_assoc]
          rw [this]; omega
        conv => lhs; rw [e2]
        rw [Int.add_mul_emod_self_left, Int.emod_eq_of_lt (by omega) (by omega)]
      rw [e1] at h
      omega
    by_cases c1 : x = 49
    · subst c1
      have := draw_read q (w / 2) rd rs1 rs2 im hk.2 hw2 hf.2 (by simpa [val, cnt] using hd) (by simpa [val, cnt] using hs) (by simpa [val, cnt] using ht) hi'
      have hb := hf.1
      simp [okBit] at hb
      simp only [draw, if_true]; rw [this]; omega
    by_cases c2 : x = 68 ∨ x = 66
    · have hm : (x == 68 || x == 66) = true := by simpa using c2
      have hm3 : (x == 83) = false := by rcases c2 with h | h <;> subst h <;> decide
      have hm4 : (x == 84) = false := by rcases c2 with h | h <;> subst h <;> decide
      simp only [val, cnt, hm, cond_true] at hd
      obtain ⟨e1, e2⟩ := step _ _ _ hd
      have := draw_read q (w / 2) (rd / 2) rs1 rs2 im hk.2 hw2 hf.2 e2 (by simpa [val, cnt, hm3] using hs) (by simpa [val, cnt, hm4] using ht) hi'
      simp only [draw, if_neg c1, if_pos c2]; rw [this, e1]; omega
    have hm2 : (x == 68 || x == 66) = false := by simpa using c2
    by_cases c3 : x = 83
    · have hm : (x == 83) = true := by simpa using c3
      have hm4 : (x == 84) = false := by subst c3; decide
      simp only [val, cnt, hm, cond_true] at hs
      obtain ⟨e1, e2⟩ := step _ _ _ hs
      have := draw_read q (w / 2) rd (rs1 / 2) rs2 im hk.2 hw2 hf.2 (by simpa [val, cnt, hm2] using hd) e2 (by simpa [val, cnt, hm4] using ht) hi'
      simp only [draw, if_neg c1, if_neg c2, if_pos c3]; rw [this, e1]; omega
    have hm3 : (x == 83) = false := by simpa using c3
    by_cases c4 : x = 84
    · have hm : (x == 84) = true := by simpa using c4
      simp only [val, cnt, hm, cond_true] at ht
      obtain ⟨e1, e2⟩ := step _ _ _ ht
      have := draw_read q (w / 2) rd rs1 (rs2 / 2) im hk.2 hw2 hf.2 (by simpa [val, cnt, hm2] using hd) (by simpa [val, cnt, hm3] using hs) e2 hi'
      simp only [draw, if_neg c1, if_neg c2, if_neg c3, if_pos c4]; rw [this, e1]; omega
    have hm4 : (x == 84) = false := by simpa using c4
    have := draw_read q (w / 2) rd rs1 rs2 im hk.2 hw2 hf.2 (by simpa [val, cnt, hm2] using hd) (by simpa [val, cnt, hm3] using hs) (by simpa [val, cnt, hm4] using ht) hi'
    by_cases c5 : isLet x = true
    · have h0 := hi 0 (by simp) (by simpa using c5)
      simp only [List.getElem_cons_zero, Nat.pow_zero, Nat.div_one] at h0
      simp only [draw, if_neg c1, if_neg c2, if_neg c3, if_neg c4, if_pos c5]; rw [this, h0]; omega
    · have hx0 : x = 48 := by
        have := hk.1; simp [known, c1, c3, c4, c5] at this; rcases this with ((h | h) | h)
        · exact h
        · exact absurd (Or.inl h) c2
        · exact absurd (Or.inr h) c2
      have hb := hf.1
      simp [okBit, hx0] at hb
      simp only [draw, if_neg c1, if_neg c2, if_neg c3, if_neg c4, if_neg c5]; rw [this]; omega
theorem high_pow : ∀ (q : List UInt8) (y : UInt8), y ∈ q → isLet y = true → ∃ h, high q = 2 ^ h ∧ y.toNat - 97 ≤ h
  | [], y, hm, _ => by simp at hm
  | x :: q, y, hm, hy => by
    rcases List.mem_cons.1 hm with rfl | hm
    · by_cases hq : ∃ z ∈ q, isLet z = true
      · obtain ⟨z, hz, hl⟩ := hq
        obtain ⟨h, e, _⟩ := high_pow q z hz hl
        simp only [high, hy, cond_true, e]
        by_cases c : y.toNat - 97 ≤ h
        · exact ⟨h, by rw [Nat.max_eq_right (Nat.pow_le_pow_right (by decide) c)], c⟩
        · exact ⟨y.toNat - 97, by rw [Nat.max_eq_left (Nat.pow_le_pow_right (by decide) (by omega))], Nat.le_refl _⟩
      · have h0 : high q = 0 := by
          clear hm hy
          induction q with
          | nil => rfl
          | cons z q ih =>
            have hz : isLet z = false := by
              cases hl : isLet z with
              | false => rfl
              | true => exact absurd ⟨z, by simp, hl⟩ hq
            simp only [high, hz, cond_false]
            exact ih (fun ⟨z', h1, h2⟩ => hq ⟨z', by simp [h1], h2⟩)
        exact ⟨y.toNat - 97, by simp [high, hy, h0], Nat.le_refl _⟩
    · obtain ⟨h, e, le⟩ := high_pow q y hm hy
      cases hl : isLet x with
      | false => exact ⟨h, by simp [high, hl, e], le⟩
      | true =>
        simp only [high, hl, cond_true, e]
        by_cases c : x.toNat - 97 ≤ h
        · exact ⟨h, by rw [Nat.max_eq_right (Nat.pow_le_pow_right (by decide) c)], le⟩
        · exact ⟨x.toNat - 97, by rw [Nat.max_eq_left (Nat.pow_le_pow_right (by decide) (by omega))], by omega⟩
theorem imm_bit (q : List UInt8) (neg : Bool) (w t : Nat) (h : t < q.length) (ha : apart q = true) (hl : isLet q[t] = true) :
    imm q neg w / 2 ^ (q[t].toNat - 97) % 2 = ((w / 2 ^ t % 2 : Nat) : Int) := by
  have hs := (sum_bit q w q[t] ha hl).2 t h rfl
  obtain ⟨k, hk, hle⟩ := high_pow q q[t] (List.getElem_mem h) hl
  generalize hN : sum q w = N at *
  generalize he : q[t].toNat - 97 = e at *
  have hp : (0 : Int) < 2 ^ e := Int.pow_pos (by decide)
  have hc : ((N : Int) / 2 ^ e % 2) = ((w / 2 ^ t % 2 : Nat) : Int) := by
    rw [← hs]; push_cast; rfl
  unfold imm
  split
  · obtain ⟨d, rfl⟩ : ∃ d, k = e + d := ⟨k - e, by omega⟩
    rw [hN, hk]
    have : (N : Int) - 2 * ((2 ^ (e + d) : Nat) : Int) = (N : Int) + 2 ^ e * (-(2 * 2 ^ d)) := by
      push_cast; rw [Int.pow_add, Int.mul_neg, Int.mul_left_comm, Int.sub_eq_add_neg]
    rw [this, Int.add_mul_ediv_left _ _ (by omega)]
    omega
  · rw [hN]; exact hc
/-- where only the letters' sum is negative: what the manual's reckoning comes to -/
theorem imm_of (q : List UInt8) (neg : Bool) (w : Nat) : imm q neg w = if neg = true ∧ high q ≤ sum q w then (sum q w : Int) - 2 * (high q : Int) else (sum q w : Int) := rfl
/-- the manual's reckoning: the letter t weighs negative -/
def sumS (t : UInt8) : List UInt8 → Nat → Int
  | [], _ => 0
  | x :: q, w => (if isLet x = true then (if x = t then -(((w % 2 * 2 ^ (x.toNat - 97) : Nat)) : Int) else ((w % 2 * 2 ^ (x.toNat - 97) : Nat) : Int)) else 0) + sumS t q (w / 2)
def topBit (t : UInt8) : List UInt8 → Nat → Nat
  | [], _ => 0
  | x :: q, w => (if x = t then w % 2 else 0) + topBit t q (w / 2)
def mostBut (t : UInt8) : List UInt8 → Nat
  | [] => 0
  | x :: q => (if isLet x = true ∧ x ≠ t then 2 ^ (x.toNat - 97) else 0) + mostBut t q
theorem sumS_eq (t : UInt8) (ht : isLet t = true) : ∀ q w, sumS t q w = (sum q w : Int) - 2 * (2 ^ (t.toNat - 97) * topBit t q w : Nat)
  | [], _ => by simp [sumS, sum, topBit]
  | x :: q, w => by
    have ih := sumS_eq t ht q (w / 2)
    simp only [sumS, sum, topBit]
    by_cases hl : isLet x = true
    · simp only [hl, if_true, cond_true]
      by_cases hx : x = t
      · subst hx; simp only [if_true]; rw [ih, Nat.mul_add, Nat.mul_comm (2 ^ _) (w % 2)]; omega
      · simp only [if_neg hx]; rw [ih, Nat.mul_add, Nat.mul_zero]; omega
    · have hx : x ≠ t := by intro h; exact hl (h ▸ ht)
      simp only [hl, cond_false, if_neg hx]; rw [ih, Nat.mul_add, Nat.mul_zero]; simp
theorem topBit_not (t : UInt8) : ∀ q w, t ∉ q → topBit t q w = 0
  | [], _, _ => rfl
  | x :: q, w, h => by
    simp at h
    simp only [topBit, if_neg (fun e : x = t => h.1 e.symm), topBit_not t q (w / 2) h.2]
theorem topBit_le (t : UInt8) (ht : isLet t = true) : ∀ q w, apart q = true → topBit t q w ≤ 1
  | [], _, _ => by simp [topBit]
  | x :: q, w, ha => by
    simp only [apart, Bool.and_eq_true, Bool.or_eq_true, Bool.not_eq_true'] at ha
    simp only [topBit]
    by_cases hx : x = t
    · subst hx
      have : x ∉ q := by
        rcases ha.1 with h | h
        · rw [ht] at h; cases h
        · simpa using h
      rw [if_pos rfl, topBit_not _ _ _ this]; omega
    · rw [if_neg hx]; have := topBit_le t ht q (w / 2) ha.2; omega
theorem sum_top (t : UInt8) (ht : isLet t = true) : ∀ q w, ∃ r, sum q w = 2 ^ (t.toNat - 97) * topBit t q w + r ∧ r ≤ mostBut t q
  | [], _ => ⟨0, by simp [sum, topBit]⟩
  | x :: q, w => by
    obtain ⟨r, e, hr⟩ := sum_top t ht q (w / 2)
    simp only [sum, topBit, mostBut]
    by_cases hl : isLet x = true
    · by_cases hx : x = t
      · subst hx; exact ⟨r, by simp only [hl, cond_true, if_true]; rw [e, Nat.mul_add, Nat.mul_comm (w % 2)]; omega, by simp; omega⟩
      · refine ⟨w % 2 * 2 ^ (x.toNat - 97) + r, by simp only [hl, cond_true, if_neg hx]; rw [e, Nat.mul_add]; omega, ?_⟩
        rw [if_pos ⟨hl, hx⟩]
        have : w % 2 * 2 ^ (x.toNat - 97) ≤ 1 * 2 ^ (x.toNat - 97) := Nat.mul_le_mul_right _ (by omega)
        omega
    · have hx : x ≠ t := by intro h; exact hl (h ▸ ht)
      exact ⟨r, by simp only [hl, cond_false, if_neg hx]; rw [e, Nat.mul_add]; omega, by simp [hl]; exact hr⟩
/-- two ways to reckon the immediate: by the sum's size, and with the highest letter's weight negative -/
theorem imm_signed (q : List UInt8) (t : UInt8) (w : Nat) (ha : apart q = true) (ht : isLet t = true) (hh : high q = 2 ^ (t.toNat - 97)) (hm : mostBut t q < 2 ^ (t.toNat - 97)) :
    imm q true w = sumS t q w := by
  obtain ⟨r, e, hr⟩ := sum_top t ht q w
  have hb := topBit_le t ht q w ha
  rw [sumS_eq t ht, imm_of, hh]
  have hc : topBit t q w = 0 ∨ topBit t q w = 1 := by omega
  rcases hc with h | h
  · rw [h] at e ⊢; rw [if_neg (by rintro ⟨_, h2⟩; omega)]; simp
  · rw [h] at e ⊢; rw [if_pos ⟨rfl, by omega⟩]; simp
theorem imm_plain (q : List UInt8) (w : Nat) : imm q false w = (sum q w : Int) := by simp [imm]
/-- a picture's first j letters, the lowest first -/
def rv (l : List UInt8) (j : Nat) : List UInt8 := (l.take j).reverse
theorem rv_zero (l : List UInt8) : rv l 0 = [] := rfl
theorem rv_succ (l : List UInt8) (i : Nat) (h : i < l.length) : rv l (i + 1) = l[i] :: rv l i := by
  unfold rv; rw [List.take_succ_eq_append_getElem h, List.reverse_append]; rfl
theorem rv_all (l : List UInt8) : rv l l.length = l.reverse := by unfold rv; rw [List.take_length]
theorem rv_length (l : List UInt8) (j : Nat) (h : j ≤ l.length) : (rv l j).length = j := by unfold rv; simp; omega
theorem cnt_le (m : UInt8 → Bool) : ∀ q, cnt m q ≤ q.length
  | [] => by simp [cnt]
  | x :: q => by
    have := cnt_le m q
    cases hm : m x <;> simp [cnt, hm] <;> omega
end Go.Proofs.YthfofjkfbhahoaaGreatDoor.Pic
end
