import Derived.Test.YthfofjkfbhahoaaGreatDoorVS
namespace Go.Proofs.YthfofjkfbhahoaaGreatDoor
section
open Go.RowKit
set_option linter.unusedSimpArgs false
set_option maxHeartbeats 400000 in
theorem m_New (n : Int) (w : World) : Calls Tryz.prog 18 #[.int .i64 n] w fun e w' => e = .returned (.tuple #[.pointer none, .int .i64 0]) ∧ w' = w := by
  go_enter Tryz.func18, Tryz.ntmps18
  go_wp2
  go_ret2
  exact ⟨rfl, rfl⟩
set_option maxHeartbeats 400000 in
theorem m_Load (p : Value) (n : Int) (s : ByteArray) (w : World) : Calls Tryz.prog 19 #[p, .int .i64 n, .string s] w fun e w' => e = .returned (.int .i64 0) ∧ w' = w := by
  go_enter Tryz.func19, Tryz.ntmps19
  go_wp2
  go_ret
  exact ⟨rfl, rfl⟩
theorem a_Assemble' (s : ByteArray) (w : World) : Calls Tryz.prog 63 #[.string s] w fun e w' => (∃ (X : ByteArray) (er n : Int), e = .returned (.tuple #[.string X, .int .i64 er, .int .i64 n])) ∧ Below w.heap.size w w' :=
  (a_Assemble s w).mono fun _ _ h => ⟨⟨_, _, _, h.1⟩, h.2⟩
theorem u_Le4 (v : Int) (w : World) : Calls Tryz.prog 80 #[.int .i64 v, .int .i64 4] w fun e w' => (∃ B : ByteArray, B.size = 4 ∧ e = .returned (.string B)) ∧ Below w.heap.size w w' :=
  (u_Le v 4 (by decide) w).mono fun _ _ h => ⟨⟨_, by rw [strNums_size, leL_length], h.1⟩, h.2⟩
theorem add_any (a b : ByteArray) (_n : Nat) (h : a.size + b.size ≤ 100000) : ∃ c : ByteArray, c.size = a.size + b.size ∧ ∀ w, (Op.stringOp .add a b).run Tryz.prog w = .ok (.string c) w :=
  ⟨a ++ b, by rw [ByteArray.size_append], fun w => add_str rfl h w⟩
set_option maxHeartbeats 1000000 in
theorem k_built (s : ByteArray) (a b : Int) (w : World) : Calls Tryz.prog 81 #[.string s, .int .i64 a, .int .i64 b] w fun e w' => e = .returned (.pointer none) ∧ Below w.heap.size w w' := by
  go_enter Tryz.func81, Tryz.ntmps81
  go_wp2_with fail
  refine (m_New _ _).mono ?_
  rintro e w1 ⟨rfl, rfl⟩
  go_wp2_with fail
  refine (a_Assemble' s _).mono ?_
  rintro e w1 ⟨⟨X, er, n, rfl⟩, hb1⟩
  by_cases her : er = 0
  · have her' : (er != 0) = false := by simp [her]
    go_wp2_with fail
    refine (m_Load _ _ _ _).mono ?_
    rintro e w2 ⟨rfl, rfl⟩
    go_wp2_with fail
    refine (u_Le4 a _).mono ?_
    rintro e w2 ⟨⟨A, hA, rfl⟩, hb2⟩
    have HB2 := hide1 (hb1.trans (hb2.mono hb1.size))
    go_wp2_with fail
    refine (u_Le4 b _).mono ?_
    rintro e w3 ⟨⟨B, hB, rfl⟩, hb3⟩
    have HB3 := hide1 (HB2.out.trans (hb3.mono HB2.out.size))
    obtain ⟨C, hC, hadd⟩ := add_any A B 0 (by omega)
    clear hb1 hb2 hb3 HB2
    go_wp2_with fail
    refine (m_Load _ _ _ _).mono ?_
    rintro e w4 ⟨rfl, rfl⟩
    go_wp2
    go_ret
    exact ⟨rfl, HB3.out⟩
  · have her' : (er != 0) = true := by simp [her]
    go_wp2
    go_ret
    exact ⟨rfl, hb1⟩
set_option maxHeartbeats 4000000 in
theorem k_mapper (s : ByteArray) (va v root low : Int) (w : World) : Calls Tryz.prog 87 #[.string s, .int .i64 va, .int .i64 v, .int .i64 root, .int .i64 low] w fun e w' => e = .returned (.pointer none) ∧ Below w.heap.size w w' := by
  go_enter Tryz.func87, Tryz.ntmps87
  go_wp2_with fail
  refine (m_New _ _).mono ?_
  rintro e w1 ⟨rfl, rfl⟩
  go_wp2_with fail
  refine (a_Assemble' s _).mono ?_
  rintro e w1 ⟨⟨X, er, n, rfl⟩, hb1⟩
  by_cases her : er = 0
  · have her' : (er != 0) = false := by simp [her]
    go_wp2_with fail
    refine (m_Load _ _ _ _).mono ?_
    rintro e w2 ⟨rfl, rfl⟩
    go_wp2_with fail
    refine (u_Le4 _ _).mono ?_
    rintro e w2 ⟨⟨A, hA, rfl⟩, hb2⟩
    have HB2 := hide1 (hb1.trans (hb2.mono hb1.size))
    clear hb1 hb2
    go_wp2_with fail
    refine (m_Load _ _ _ _).mono ?_
    rintro e w3 ⟨rfl, rfl⟩
    go_wp2_with fail
    refine (u_Le4 v _).mono ?_
    rintro e w3 ⟨⟨A2, hA2, rfl⟩, hb3⟩
    have HB3 := hide1 (HB2.out.trans (hb3.mono HB2.out.size))
    clear HB2 hb3
    go_wp2_with fail
    refine (u_Le4 va _).mono ?_
    rintro e w4 ⟨⟨B, hB, rfl⟩, hb4⟩
    have HB4 := hide1 (HB3.out.trans (hb4.mono HB3.out.size))
    clear HB3 hb4
    go_wp2_with fail
    refine (u_Le4 _ _).mono ?_
    rintro e w5 ⟨⟨C, hC, rfl⟩, hb5⟩
    have HB5 := hide1 (HB4.out.trans (hb5.mono HB4.out.size))
    clear HB4 hb5
    go_wp2_with fail
    refine (u_Le4 _ _).mono ?_
    rintro e w6 ⟨⟨D, hD, rfl⟩, hb6⟩
    have HB6 := hide1 (HB5.out.trans (hb6.mono HB5.out.size))
    clear HB5 hb6
    obtain ⟨C1, hC1, ad1⟩ := add_any A2 B 0 (by omega)
    obtain ⟨C2, hC2, ad2⟩ := add_any C1 C 0 (by omega)
    obtain ⟨C3, hC3, ad3⟩ := add_any C2 D 0 (by omega)
    go_wp2_with fail
    refine (m_Load _ _ _ _).mono ?_
    rintro e w7 ⟨rfl, rfl⟩
    clear ad1 ad2 ad3 hC1 hC2 hC3 hA hA2 hB hC hD
    go_wp2_with fail
    refine (u_Le4 root _).mono ?_
    rintro e w7 ⟨⟨A3, hA3, rfl⟩, hb7⟩
    have HB7 := hide1 (HB6.out.trans (hb7.mono HB6.out.size))
    clear HB6 hb7 hA3
    go_wp2_with fail
    refine (m_Load _ _ _ _).mono ?_
    rintro e w8 ⟨rfl, rfl⟩
    go_wp2_with fail
    refine (u_Le4 low _).mono ?_
    rintro e w8 ⟨⟨B3, hB3, rfl⟩, hb8⟩
    have HB8 := hide1 (HB7.out.trans (hb8.mono HB7.out.size))
    clear HB7 hb8 hB3
    go_wp2_with fail
    refine (m_Load _ _ _ _).mono ?_
    rintro e w9 ⟨rfl, rfl⟩
    go_wp2
    go_ret
    exact ⟨rfl, HB8.out⟩
  · have her' : (er != 0) = true := by simp [her]
    go_wp2
    go_ret
    exact ⟨rfl, hb1⟩
set_option maxRecDepth 100000 in
set_option maxHeartbeats 1000000 in
theorem k_maths (a b : Int) (w : World) : Calls Tryz.prog 37 #[.int .i64 a, .int .i64 b] w fun e w' => e = .returned (.bool false) ∧ Below w.heap.size w w' := by
  go_enter Tryz.func37, Tryz.ntmps37
  go_wp2_with fail
  refine (k_built _ _ _ _).mono ?_
  rintro e w1 ⟨rfl, hb1⟩
  go_wp2
  go_ret
  exact ⟨rfl, hb1⟩
set_option maxRecDepth 100000 in
set_option maxHeartbeats 1000000 in
theorem k_loads (a b : Int) (w : World) : Calls Tryz.prog 43 #[.int .i64 a, .int .i64 b] w fun e w' => e = .returned (.bool false) ∧ Below w.heap.size w w' := by
  go_enter Tryz.func43, Tryz.ntmps43
  go_wp2_with fail
  refine (k_built _ _ _ _).mono ?_
  rintro e w1 ⟨rfl, hb1⟩
  go_wp2
  go_ret
  exact ⟨rfl, hb1⟩
set_option maxRecDepth 100000 in
set_option maxHeartbeats 1000000 in
theorem k_branches (a b : Int) (w : World) : Calls Tryz.prog 44 #[.int .i64 a, .int .i64 b] w fun e w' => e = .returned (.bool false) ∧ Below w.heap.size w w' := by
  go_enter Tryz.func44, Tryz.ntmps44
  go_wp2_with fail
  refine (k_built _ _ _ _).mono ?_
  rintro e w1 ⟨rfl, hb1⟩
  go_wp2
  go_ret
  exact ⟨rfl, hb1⟩
set_option maxRecDepth 100000 in
set_option maxHeartbeats 1000000 in
theorem k_amos (a b : Int) (w : World) : Calls Tryz.prog 45 #[.int .i64 a, .int .i64 b] w fun e w' => e = .returned (.bool false) ∧ Below w.heap.size w w' := by
  go_enter Tryz.func45, Tryz.ntmps45
  go_wp2_with fail
  refine (k_built _ _ _ _).mono ?_
  rintro e w1 ⟨rfl, hb1⟩
  go_wp2
  go_ret
  exact ⟨rfl, hb1⟩
set_option maxRecDepth 100000 in
set_option maxHeartbeats 1000000 in
theorem k_pair (a b : Int) (w : World) : Calls Tryz.prog 46 #[.int .i64 a, .int .i64 b] w fun e w' => e = .returned (.bool false) ∧ Below w.heap.size w w' := by
  go_enter Tryz.func46, Tryz.ntmps46
  go_wp2_with fail
  refine (k_built _ _ _ _).mono ?_
  rintro e w1 ⟨rfl, hb1⟩
  go_wp2
  go_ret
  exact ⟨rfl, hb1⟩
set_option maxRecDepth 100000 in
set_option maxHeartbeats 1000000 in
theorem k_alarm (a b : Int) (w : World) : Calls Tryz.prog 39 #[.int .i64 a, .int .i64 b] w fun e w' => e = .returned (.bool false) ∧ Below w.heap.size w w' := by
  go_enter Tryz.func39, Tryz.ntmps39
  go_wp2_with fail
  refine (k_built _ _ _ _).mono ?_
  rintro e w1 ⟨rfl, hb1⟩
  go_wp2
  go_ret
  exact ⟨rfl, hb1⟩
set_option maxRecDepth 100000 in
set_option maxHeartbeats 1000000 in
theorem k_echo (s : ByteArray) (w : World) : Calls Tryz.prog 38 #[.string s] w fun e w' => e = .returned (.bool false) ∧ Below w.heap.size w w' := by
  go_enter Tryz.func38, Tryz.ntmps38
  go_wp2_with fail
  refine (k_built _ _ _ _).mono ?_
  rintro e w1 ⟨rfl, hb1⟩
  go_wp2
  go_ret
  exact ⟨rfl, hb1⟩
set_option maxRecDepth 100000 in
set_option maxHeartbeats 1000000 in
theorem k_self (k : Int) (w : World) : Calls Tryz.prog 40 #[.int .i64 k] w fun e w' => e = .returned (.bool false) ∧ Below w.heap.size w w' := by
  go_enter Tryz.func40, Tryz.ntmps40
  go_wp2_with fail
  refine (k_built _ _ _ _).mono ?_
  rintro e w1 ⟨rfl, hb1⟩
  go_wp2
  go_ret
  exact ⟨rfl, hb1⟩
set_option maxHeartbeats 400000 in
theorem k_pick (c : Int) (h0 : -9223372036854775808 ≤ c) (h1 : c ≤ 9223372036854775807) (n : Nat) (hn : 1 ≤ n) (hn2 : n ≤ 100) (w : World) : Calls Tryz.prog 25 #[.int .i64 c, .int .i64 n] w fun e w' => (∃ k : Nat, k < n ∧ e = .returned (.int .i64 k)) ∧ w' = w := by
  have hn0 : ((n : Int) == 0) = false := by simp; omega
  by_cases hc : c < 0
  · go_enter Tryz.func25, Tryz.ntmps25
    go_wp2
    go_ret
    have e : -((c + 1).tmod n) = (((-(c + 1)) % n).toNat : Int) := by rw [← Int.neg_tmod, Int.tmod_eq_emod_of_nonneg (by omega), Int.toNat_of_nonneg (Int.emod_nonneg _ (by omega))]
    have hl := Int.emod_lt_of_pos (-(c + 1)) (show (0 : Int) < n by omega)
    have hl0 := Int.emod_nonneg (-(c + 1)) (show (n : Int) ≠ 0 by omega)
    exact ⟨⟨((-(c + 1)) % n).toNat, by omega, by rw [← e]; rfl⟩, rfl⟩
  · go_enter Tryz.func25, Tryz.ntmps25
    go_wp2
    go_ret
    have hl := Int.emod_lt_of_pos c (show (0 : Int) < n by omega)
    have hl0 := Int.emod_nonneg c (show (n : Int) ≠ 0 by omega)
    exact ⟨⟨(c % n).toNat, by omega, by rw [Int.toNat_of_nonneg hl0]; rfl⟩, rfl⟩
set_option maxRecDepth 100000 in
set_option maxHeartbeats 4000000 in
theorem k_maps (a b c : Int) (h0 : -9223372036854775808 ≤ c) (h1 : c ≤ 9223372036854775807) (w : World) : Calls Tryz.prog 41 #[.int .i64 a, .int .i64 b, .int .i64 c] w fun e w' => e = .returned (.bool false) ∧ Below w.heap.size w w' := by
  go_enter Tryz.func41, Tryz.ntmps41
  go_wp2_with fail
  refine (k_pick c h0 h1 6 (by decide) (by decide) _).mono ?_
  rintro e w1 ⟨⟨k, hk, rfl⟩, rfl⟩
  have hk6 : k = 0 ∨ k = 1 ∨ k = 2 ∨ k = 3 ∨ k = 4 ∨ k = 5 := by omega
  rcases hk6 with rfl | rfl | rfl | rfl | rfl | rfl
  all_goals go_wp2_with fail
  all_goals refine (k_mapper _ _ _ _ _ _).mono ?_
  all_goals rintro e w2 ⟨rfl, hb2⟩
  all_goals go_wp2
  all_goals go_ret
  all_goals exact ⟨rfl, hb2⟩
set_option maxRecDepth 100000 in
set_option maxHeartbeats 4000000 in
theorem k_crosses (a b c : Int) (w : World) : Calls Tryz.prog 42 #[.int .i64 a, .int .i64 b, .int .i64 c] w fun e w' => e = .returned (.bool false) ∧ Below w.heap.size w w' := by
  go_enter Tryz.func42, Tryz.ntmps42
  go_wp2_with fail
  refine (k_mapper _ _ _ _ _ _).mono ?_
  rintro e w1 ⟨rfl, hb1⟩
  go_wp2
  go_ret
  exact ⟨rfl, hb1⟩
theorem size_of_w (W : Nat) : sizeOf (W : Int) = 4 → W % 4 = 3 := by
  intro h
  unfold sizeOf at h
  split at h
  · cases h
  · split at h
    · omega
    · split at h <;> cases h
theorem size_of_h (W : Nat) : sizeOf (W : Int) = 2 → ¬ W % 4 = 3 := by
  intro h
  unfold sizeOf at h
  split at h
  · cases h
  · split at h
    · cases h
    · omega
set_option maxHeartbeats 2000000 in
theorem k_gold (k : Nat) (hk : k < 96) (w : World) (ht : Hid (Tb w)) : Calls Tryz.prog 47 #[.int .i64 k] w fun e w' => e = .returned (.bool true) ∧ Below w.heap.size w w' := by
  obtain ⟨g1, g2⟩ := gold_ok k hk
  have hkn := k_known k hk w
  obtain ⟨W, hW⟩ : ∃ W, W = Gold.w k := ⟨_, rfl⟩
  rw [← hW] at g1 g2 hkn
  obtain ⟨n, hn, hz, h1, h2⟩ := text_back W g2
  obtain ⟨X, hX⟩ : ∃ X : ByteArray, X = ⟨(Gold.l k).toArray⟩ := ⟨_, rfl⟩
  obtain ⟨B, hB⟩ : ∃ B : ByteArray, B = strOfNums (leL W n) := ⟨_, rfl⟩
  rw [show Byt.strV (Gold.l k) = .string X by rw [hX]; rfl] at hkn
  have htext : Calls Tryz.prog 72 #[.int .i64 W] w fun e w' => e = .returned (.tuple #[.string X, .int .i64 0]) ∧ Hid (Below w.heap.size w w') := by
    have h := a_Text' W w ht
    rw [g1] at h
    rw [hX]; exact h
  have hasm : ∀ w1, Calls Tryz.prog 63 #[.string X] w1 fun e w' => e = .returned (.tuple #[.string B, .int .i64 0, .int .i64 0]) ∧ Hid (Below w1.heap.size w1 w') := by
    intro w1
    have h := a_Assemble X w1
    rw [g1] at h2
    rw [show X.data.toList = Gold.l k by rw [hX], h2] at h
    have e : Byt.strV (Byt.leB W n) = .string B := by unfold Byt.strV Byt.leB; rw [mk_list, hB]
    rw [show (Byt.leB (W : Int) n, (0 : Int), 0).1 = Byt.leB W n from rfl, e] at h
    exact h
  have hle : ∀ w1, Calls Tryz.prog 80 #[.int .i64 W, .int .i64 n] w1 fun e w' => e = .returned (.string B) ∧ Hid (Below w1.heap.size w1 w') := by
    intro w1
    rw [hB]; exact u_Le W n (by omega) w1
  have hbb : (B.toList == B.toList) = true := by simp
  have hxx : (X.toList == X.toList) = true := by simp
  have HKN := hide1 hkn
  have HTEXT := hide1 htext
  have HASM := hide1 hasm
  have HLE := hide1 hle
  have s4 := size_of_w W
  have s2 := size_of_h W
  rw [hz] at s4 s2
  clear hkn htext hasm hle h1 h2 g1 g2 hW hX hB hz
  rcases hn with rfl | rfl
  · have h3 := s2 rfl
    clear s2 s4
    have g3 : ((W : Int) % 4 != 3) = true := by simp; omega
    have g3' : ((W : Int).tmod 4 != 3) = true := by rw [Int.tmod_eq_emod_of_nonneg (by omega)]; exact g3
    have g4 : (W % 4 != 3) = true := by simp; omega
    go_enter Tryz.func47, Tryz.ntmps47
    go_wp2_with fail
    refine HKN.out.mono ?_
    rintro e w1 ⟨rfl, rfl⟩
    go_wp2_with fail
    refine HTEXT.out.mono ?_
    rintro e w1 ⟨rfl, hb1⟩
    go_wp2_with fail
    refine (HASM.out _).mono ?_
    rintro e w2 ⟨rfl, hb2⟩
    have HB2 := hide1 (hb1.out.trans (hb2.out.mono hb1.out.size))
    go_wp2_with fail
    refine (HLE.out _).mono ?_
    rintro e w3 ⟨rfl, hb3⟩
    have HB3 := hide1 (HB2.out.trans (hb3.out.mono HB2.out.size))
    go_wp2
    go_ret
    exact ⟨rfl, HB3.out⟩
  · have h3 := s4 rfl
    clear s2 s4
    have g3 : ((W : Int) % 4 != 3) = false := by simp; omega
    have g3' : ((W : Int).tmod 4 != 3) = false := by rw [Int.tmod_eq_emod_of_nonneg (by omega)]; exact g3
    have g4 : (W % 4 != 3) = false := by simp; omega
    go_enter Tryz.func47, Tryz.ntmps47
    go_wp2_with fail
    refine HKN.out.mono ?_
    rintro e w1 ⟨rfl, rfl⟩
    go_wp2_with fail
    refine HTEXT.out.mono ?_
    rintro e w1 ⟨rfl, hb1⟩
    go_wp2_with fail
    refine (HASM.out _).mono ?_
    rintro e w2 ⟨rfl, hb2⟩
    have HB2 := hide1 (hb1.out.trans (hb2.out.mono hb1.out.size))
    go_wp2_with fail
    refine (HLE.out _).mono ?_
    rintro e w3 ⟨rfl, hb3⟩
    have HB3 := hide1 (HB2.out.trans (hb3.out.mono HB2.out.size))
    go_wp2
    go_ret
    exact ⟨rfl, HB3.out⟩
end
end Go.Proofs.YthfofjkfbhahoaaGreatDoor
