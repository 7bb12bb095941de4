import Derived.Test.YtmlgonbhoknoiabGreatDoorWAQ
set_option maxHeartbeats 8000000
set_option linter.all false
namespace Go.Proofs.YtmlgonbhoknoiabGreatDoor
open Go.RowKit Go.Proofs.Tryz
theorem i_EncW (a0 a1 a2 a3 a4 a5 : Int) (w : World) : Calls prog 87 #[.agg #[.int .i64 a0, .int .i64 a1, .int .i64 a2, .int .i64 a3, .int .i64 a4, .int .i64 a5]] w fun e w' => (∃ v f : Int, e = .returned (.tuple #[.int .i64 v, .int .i64 f])) /\ Below w.heap.size w w' :=
 (i_Encode ⟨a0, a1, a2, a3, a4, a5⟩ w).mono (fun _ _ h => ⟨⟨_, _, h.1⟩, h.2⟩)
theorem i_DecW (x : Int) (w : World) : Calls prog 86 #[.int .i64 x] w fun e w' => (∃ a0 a1 a2 a3 a4 a5 f : Int, e = .returned (.tuple #[.agg #[.int .i64 a0, .int .i64 a1, .int .i64 a2, .int .i64 a3, .int .i64 a4, .int .i64 a5], .int .i64 f])) /\ Below w.heap.size w w' :=
 (i_Decode x w).mono (fun _ _ h => ⟨⟨_, _, _, _, _, _, _, h.1⟩, h.2⟩)
theorem a_TxtW (x : Int) (w : World) (ht : Tb w) : Calls prog 88 #[.int .i64 x] w fun e w' => (∃ (X : ByteArray) (f : Int), e = .returned (.tuple #[.string X, .int .i64 f])) /\ Below w.heap.size w w' :=
 (a_Text' x w (hide1 ht)).mono (fun _ _ h => ⟨⟨_, _, h.1⟩, h.2⟩)
theorem a_AsmW (s : ByteArray) (w : World) : Calls prog 67 #[.string s] w fun e w' => (∃ (X : ByteArray) (er n : Int), e = .returned (.tuple #[.string X, .int .i64 er, .int .i64 n])) /\ Below w.heap.size w w' :=
 (a_Assemble s w).mono (fun _ _ h => ⟨⟨_, _, _, h.1⟩, h.2⟩)
theorem u_LeW (v : Int) (n : Int) (hn : n = 2 \/ n = 4) (w : World) : Calls prog 89 #[.int .i64 v, .int .i64 n] w fun e w' => (∃ X : ByteArray, e = .returned (.string X)) /\ Below w.heap.size w w' := by
 rcases hn with rfl | rfl
 . exact (u_Le v 2 (by decide) w).mono (fun _ _ h => ⟨⟨_, h.1⟩, h.2⟩)
 . exact (u_Le v 4 (by decide) w).mono (fun _ _ h => ⟨⟨_, h.1⟩, h.2⟩)
theorem cells6 {w1 w2 : World} {a0 a1 a2 a3 a4 a5 : Value} {t : Nat} {n : Nat} (h : Below n (w1.alloc (.cells #[a0, a1, a2, a3, a4, a5] t)) w2) (hn : w1.heap.size < n) :
 w2.cell? ⟨w1.heap.size, 0, none⟩ = some a0 /\ w2.cell? ⟨w1.heap.size, 1, none⟩ = some a1 /\ w2.cell? ⟨w1.heap.size, 2, none⟩ = some a2 /\ w2.cell? ⟨w1.heap.size, 3, none⟩ = some a3 /\ w2.cell? ⟨w1.heap.size, 4, none⟩ = some a4 /\ w2.cell? ⟨w1.heap.size, 5, none⟩ = some a5 := by
 refine ⟨(h.cell (p := ⟨w1.heap.size, 0, none⟩) hn).trans ?_, (h.cell (p := ⟨w1.heap.size, 1, none⟩) hn).trans ?_, (h.cell (p := ⟨w1.heap.size, 2, none⟩) hn).trans ?_, (h.cell (p := ⟨w1.heap.size, 3, none⟩) hn).trans ?_, (h.cell (p := ⟨w1.heap.size, 4, none⟩) hn).trans ?_, (h.cell (p := ⟨w1.heap.size, 5, none⟩) hn).trans ?_⟩ <;> simp [go_sem]
theorem lt_of6 {w1 w2 : World} {o : Obj} {n : Nat} (h : Below n (w1.alloc o) w2) : w1.heap.size < w2.heap.size := by
 have := h.size
 simp at this; omega
def SomeB (e : Ending) : Prop := ∃ r, e = .returned (.bool r)
set_option maxRecDepth 100000 in
theorem k_wordW (x : Int) (w : World) (ht : Hid (Tb w)) :
 Calls prog 40 #[.int .i64 x] w fun e w' => SomeB e /\ Below w.heap.size w w' := by
 have hq := eql_ins
 have hn := neq_ins
 go_enter func40, ntmps40
 go_wp2_with fail
 refine (i_DecW x w).mono ?_
 rintro e w1 ⟨⟨i0, i1, i2, i3, i4, i5, er, rfl⟩, hb1⟩
 go_upto_if 71 with fail
 all_goals first
  | (go_ret; exact ⟨⟨_, rfl⟩, hb1.alloc hb1.size _⟩)
  | skip
 all_goals
  go_cut [] from 71 to 104 (fun wx => Hid (Below w.heap.size w wx))
  case first =>
   go_wp2_with (first | (go_at_call 87; refine (i_EncW _ _ _ _ _ _ _).mono ?_; rintro e w2 ⟨⟨v, f, rfl⟩, hb2⟩; have HB2 := hide1 ((hb1.alloc hb1.size _).trans (hb2.mono (hb1.alloc hb1.size _).size)); have HH2 := hide1 hb2; clear hb2) | (go_at_call 86; refine (i_DecW _ _).mono ?_; rintro e w3 ⟨⟨j0, j1, j2, j3, j4, j5, er2, rfl⟩, hb3⟩; have HB3 := hide1 (HB2.out.trans (hb3.mono HB2.out.size)); obtain ⟨y0, y1, y2, y3, y4, y5⟩ := cells6 (HH2.out.trans (hb3.mono HH2.out.size)) (by simp); have yl := lt_of6 (HH2.out.trans (hb3.mono HH2.out.size)); clear hb3 HB2 HH2))
   all_goals first
    | (go_meet; case rel => exact hide1 (hb1.alloc hb1.size _))
    | (go_ret; exact ⟨⟨_, rfl⟩, hb1.alloc hb1.size _⟩)
    | (go_ret; exact ⟨⟨_, rfl⟩, HB2.out⟩)
    | (go_meet; case rel => exact hide1 (HB3.out.alloc HB3.out.size _))
    | (go_ret; exact ⟨⟨_, rfl⟩, HB3.out.alloc HB3.out.size _⟩)
  case rest =>
   clear hb1 hq hn
   go_wp2_with (first | (go_at_call 88; refine (a_TxtW _ _ (ht.out.more hcut.out)).mono ?_; rintro e w2 ⟨⟨X, f, rfl⟩, hb2⟩; have HB2 := hide1 (hcut.out.trans (hb2.mono hcut.out.size)); clear hb2) | (go_at_call 67; refine (a_AsmW _ _).mono ?_; rintro e w3 ⟨⟨Y, f3, n3, rfl⟩, hb3⟩; have HB3 := hide1 (HB2.out.trans (hb3.mono HB2.out.size)); clear hb3) | (go_at_call 89; refine (u_LeW _ _ (by decide) _).mono ?_; rintro e w4 ⟨⟨Z, rfl⟩, hb4⟩; have HB4 := hide1 (HB3.out.trans (hb4.mono HB3.out.size)); clear hb4))
   all_goals
    go_ret
    exact ⟨⟨_, rfl⟩, HB4.out⟩
set_option maxRecDepth 100000 in
theorem k_goldW (k : Nat) (hk : k < 96) (w : World) (ht : Hid (Tb w)) :
 Calls prog 51 #[.int .i64 k] w fun e w' => SomeB e /\ Below w.heap.size w w' := by
 obtain ⟨W, X, hkn⟩ : ∃ (W : Int) (X : ByteArray), CS 100 #[.int .i64 k] (.tuple #[.int .i64 W, .string X]) w := ⟨_, _, k_known k hk w⟩
 have HK := hide1 hkn
 clear hkn
 go_enter func51, ntmps51
 go_wp2_with fail
 refine HK.out.mono ?_
 rintro e w1 ⟨rfl, hw1⟩
 rw [hw1]
 clear hw1 HK
 go_wp2_with (first | (go_at_call 88; refine (a_TxtW _ _ ht.out).mono ?_; rintro e w2 ⟨⟨X2, f, rfl⟩, hb2⟩; have HB2 := hide1 hb2; clear hb2) | (go_at_call 67; refine (a_AsmW _ _).mono ?_; rintro e w3 ⟨⟨Y, f3, n3, rfl⟩, hb3⟩; have HB3 := hide1 (HB2.out.trans (hb3.mono HB2.out.size)); clear hb3) | (go_at_call 89; refine (u_LeW _ _ (by decide) _).mono ?_; rintro e w4 ⟨⟨Z, rfl⟩, hb4⟩; have HB4 := hide1 (HB3.out.trans (hb4.mono HB3.out.size)); clear hb4))
 all_goals
  go_ret
  exact ⟨⟨_, rfl⟩, HB4.out⟩
end Go.Proofs.YtmlgonbhoknoiabGreatDoor
