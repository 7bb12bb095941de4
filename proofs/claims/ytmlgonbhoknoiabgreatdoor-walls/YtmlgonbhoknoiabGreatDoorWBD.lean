import Derived.Test.YtmlgonbhoknoiabGreatDoorWBC
set_option maxHeartbeats 8000000
set_option linter.all false
namespace Go.Proofs.YtmlgonbhoknoiabGreatDoor
open Go.RowKit Go.Proofs.Tryz
section
attribute [local go_sem ↓] Go.wp_at_zero Go.wp_at_succ
def Sd (w0 : World) (fb gb : Nat) (f g : Fc) (mb rb z db : Nat) (k c : Int) (w : World) : Prop := St w0 fb gb f g mb rb z w /\ BoxF w db [.int .i64 k, .int .i64 c]
theorem Sd.kept {w0 : World} {fb gb : Nat} {f g : Fc} {mb rb z db : Nat} {k c : Int} {w w' : World} (h : Sd w0 fb gb f g mb rb z db k c w) (hk : Kept [] w w') : Sd w0 fb gb f g mb rb z db k c w' := ⟨h.1.kept hk, h.2.kept hk⟩
theorem Sd.drewN {w0 : World} {fb gb : Nat} {f g : Fc} {mb rb z db : Nat} {k c : Int} {w : World} (h : Sd w0 fb gb f g mb rb z db k c w) (n : Nat) : Sd w0 fb gb f g mb rb z db k c (w.drewN n) := h.kept ((Kept.refl [] w).drewN n)
set_option maxRecDepth 100000 in
theorem k_trapped (mb rb z fb gb : Nat) (f g : Fc) (k c : Int) (w : World) (hs : Hid (St w fb gb f g mb rb z w)) : Calls prog 57 #[.pointer (some ⟨mb, 0, none⟩), .pointer (some ⟨fb, 0, none⟩), .pointer (some ⟨gb, 0, none⟩), .agg #[.int .i64 k, .int .i64 c]] w fun o w' => BoolR o /\ Kept [] w w' := by
 obtain ⟨db, hdb⟩ := zn1 (w.heap.size)
 have s0 : Hid (Sd w fb gb f g mb rb z db k c (w.alloc (.cells #[.int .i64 k, .int .i64 c] 45))) := hide1 ⟨hs.out.kept ((Kept.refl [] w).alloc _), by rw [hdb]; exact BoxF.new w [.int .i64 k, .int .i64 c] _⟩
 go_enter func57, ntmps57
 go_upto_region 1 with fail
 rw [<- hdb]
 clear hs
 obtain ⟨W, hW⟩ := zn1 (w.alloc (.cells #[.int .i64 k, .int .i64 c] 45))
 rw [<- hW] at s0 |-
 clear hW hdb
 have f5_1 := s0.out.1.1.cell 5 _ rfl
 have f6_1 := s0.out.1.1.cell 6 _ rfl
 have d0_1 := s0.out.2.cell 0 _ rfl
 have d1_1 := s0.out.2.cell 1 _ rfl
 have fl_1 := s0.out.1.1.lt
 have gl_1 := s0.out.1.2.1.lt
 have dl_1 := s0.out.2.lt
 go_upto_if 26 with fail
 go_cut [9, 10] (fun p0 p1 wx => ((∃ x : Int, p0 = .int .i64 x) /\ (∃ y : Int, p1 = .int .i64 y)) /\ Hid (Sd w fb gb f g mb rb z db k c wx))
 case first =>
  as_aux_lemma =>
   go_wp2_with fail
   all_goals
    go_meet
    case rel => exact ⟨⟨⟨_, rfl⟩, ⟨_, rfl⟩⟩, s0⟩
 case rest =>
 obtain ⟨⟨⟨dg, rfl⟩, ⟨cc, rfl⟩⟩, s1⟩ := hcut
 clear s0 f5_1 f6_1 d0_1 d1_1 fl_1 gl_1 dl_1
 have d1_2 := s1.out.2.cell 1 _ rfl
 have fl_2 := s1.out.1.1.lt
 have gl_2 := s1.out.1.2.1.lt
 have dl_2 := s1.out.2.lt
 go_upto_region 7 with ((go_at_call 105; refine (k_has _ _ _).mono ?_; rintro o wq ⟨⟨dn, rfl⟩, hwq⟩; rw [hwq]; clear hwq wq))
 clear d1_2 fl_2 gl_2 dl_2
 have f0_3 := s1.out.1.1.cell 0 _ rfl
 have fl_3 := s1.out.1.1.lt
 have gl_3 := s1.out.1.2.1.lt
 have dl_3 := s1.out.2.lt
 go_cut [12] (fun p0 wx => (∃ r : Bool, p0 = .bool r) /\ Hid (Sd w fb gb f g mb rb z db k c wx))
 case first =>
  exact zq390
 case rest =>
 obtain ⟨⟨s, rfl⟩, s3⟩ := hcut
 clear s1 f0_3 fl_3 gl_3 dl_3
 have f0_4 := s3.out.1.1.cell 0 _ rfl
 have f14_4 := s3.out.1.1.cell 14 _ rfl
 have g0_4 := s3.out.1.2.1.cell 0 _ rfl
 have g14_4 := s3.out.1.2.1.cell 14 _ rfl
 have fl_4 := s3.out.1.1.lt
 have gl_4 := s3.out.1.2.1.lt
 have dl_4 := s3.out.2.lt
 go_upto_region 8 with fail
 go_cut [73] (fun p0 wx => (∃ r : Bool, p0 = .bool r) /\ Hid (Sd w fb gb f g mb rb z db k c wx))
 case first =>
  by_cases hl : g.mode < f.mode
  . have hl' : decide (g.mode < f.mode) = true := by simp; omega
    clear hl
    as_aux_lemma =>
     exact zq392
  have hl' : decide (g.mode < f.mode) = false := by simp; omega
  clear hl
  cases s <;> rcases beqC g.mode 1 with ⟨qa, qb⟩ | ⟨qa, qb⟩
  all_goals
   as_aux_lemma =>
    exact zq392
 case rest =>
 obtain ⟨⟨bs, rfl⟩, s4⟩ := hcut
 clear s3 f0_4 f14_4 g0_4 g14_4 fl_4 gl_4 dl_4
 cases bs
 rotate_left
 . go_wp2_with fail
   go_ret
   exact ⟨⟨_, rfl⟩, s4.out.1.2.2.2⟩
 have d0_5 := s4.out.2.cell 0 _ rfl
 have d1_5 := s4.out.2.cell 1 _ rfl
 have fl_5 := s4.out.1.1.lt
 have gl_5 := s4.out.1.2.1.lt
 have dl_5 := s4.out.2.lt
 go_upto_if 74 with fail
 go_cut [13] (fun p0 wx => (∃ r : Int, p0 = .int .i64 r) /\ Hid (Sd w fb gb f g mb rb z db k c wx))
 case first =>
  as_aux_lemma =>
   go_wp2_with fail
   all_goals
    go_meet
    case rel => exact ⟨⟨_, rfl⟩, s4⟩
 case rest =>
 obtain ⟨⟨tv, rfl⟩, s5⟩ := hcut
 clear s4 d0_5 d1_5 fl_5 gl_5 dl_5
 go_wp2_with fail
 refine (k_csr mb rb _ _ (hide1 s5.out.1.2.2.1.m)).mono ?_
 rintro o w6 ⟨⟨v, v0, v1, rfl⟩, hk⟩
 have s6 := hide1 (s5.out.kept hk)
 clear hk s5
 have d0_7 := s6.out.2.cell 0 _ rfl
 have d1_7 := s6.out.2.cell 1 _ rfl
 have fl_7 := s6.out.1.1.lt
 have gl_7 := s6.out.1.2.1.lt
 have dl_7 := s6.out.2.lt
 go_upto_region 15 with fail
 go_cut [87] (fun p0 wx => (∃ r : Bool, p0 = .bool r) /\ Hid (Sd w fb gb f g mb rb z db k c wx))
 case first =>
  rcases beqC k 2 with ⟨qa, qb⟩ | ⟨qa, qb⟩
  all_goals
   as_aux_lemma =>
    go_wp2_with fail
    all_goals
     go_meet
     case rel => exact ⟨⟨_, rfl⟩, s6⟩
 case rest =>
 obtain ⟨⟨bi, rfl⟩, s7⟩ := hcut
 clear s6 d0_7 d1_7 fl_7 gl_7 dl_7
 have d0_8 := s7.out.2.cell 0 _ rfl
 have d1_8 := s7.out.2.cell 1 _ rfl
 have fl_8 := s7.out.1.1.lt
 have gl_8 := s7.out.1.2.1.lt
 have dl_8 := s7.out.2.lt
 go_upto_if 87 with fail
 go_cut [15] (fun p0 wx => (∃ r : Int, p0 = .int .i64 r) /\ Hid (Sd w fb gb f g mb rb z db k c wx))
 case first =>
  as_aux_lemma =>
   go_wp2_with fail
   all_goals
    go_meet
    case rel => exact ⟨⟨_, rfl⟩, s7⟩
 case rest =>
 obtain ⟨⟨tgt, rfl⟩, s8⟩ := hcut
 clear s7 d0_8 d1_8 fl_8 gl_8 dl_8
 go_wp2_with fail
 refine (k_csr mb rb _ _ (hide1 s8.out.1.2.2.1.m)).mono ?_
 rintro o w9 ⟨⟨ca, ca0, ca1, rfl⟩, hk⟩
 have s9 := hide1 (s8.out.kept hk)
 clear hk s8
 go_wp2_with fail
 refine (k_csr mb rb _ _ (hide1 s9.out.1.2.2.1.m)).mono ?_
 rintro o w10 ⟨⟨ep, ep0, ep1, rfl⟩, hk⟩
 have s10 := hide1 (s9.out.kept hk)
 clear hk s9
 have f1_11 := s10.out.1.1.cell 1 _ rfl
 have g1_11 := s10.out.1.2.1.cell 1 _ rfl
 have fl_11 := s10.out.1.1.lt
 have gl_11 := s10.out.1.2.1.lt
 have dl_11 := s10.out.2.lt
 go_upto_region 19 with fail
 go_cut [122] (fun p0 wx => (∃ r : Bool, p0 = .bool r) /\ Hid (Sd w fb gb f g mb rb z db k c wx))
 case first =>
  rcases beqC g.pc tgt with ⟨qa, qb⟩ | ⟨qa, qb⟩ <;> rcases beqC ca cc with ⟨qc, qd⟩ | ⟨qc, qd⟩ <;> rcases beqC ep f.pc with ⟨qe, qf⟩ | ⟨qe, qf⟩
  all_goals
   as_aux_lemma =>
    go_wp2_with fail
    all_goals
     go_meet
     case rel => exact ⟨⟨_, rfl⟩, s10⟩
 case rest =>
 obtain ⟨⟨bs, rfl⟩, s11⟩ := hcut
 clear s10 f1_11 g1_11 fl_11 gl_11 dl_11
 cases bs
 rotate_left
 . go_wp2_with fail
   go_ret
   exact ⟨⟨_, rfl⟩, s11.out.1.2.2.2⟩
 have f0_12 := s11.out.1.1.cell 0 _ rfl
 have f2_12 := s11.out.1.1.cell 2 _ rfl
 have g2_12 := s11.out.1.2.1.cell 2 _ rfl
 have fl_12 := s11.out.1.1.lt
 have gl_12 := s11.out.1.2.1.lt
 have dl_12 := s11.out.2.lt
 cases s
 . go_upto_region 23 with fail
   rcases beqC (bits .and .i64 (g.status / 2048) 3) (f.mode) with ⟨qa, qb⟩ | ⟨qa, qb⟩
   rotate_left
   . exact zq393
   rcases beqC (bits .and .i64 (g.status / 8) 1) (0) with ⟨qa, qb⟩ | ⟨qa, qb⟩
   rotate_left
   . exact zq393
   rcases beqC (bits .and .i64 (g.status / 128) 1) (bits .and .i64 (f.status / 8) 1) with ⟨qa, qb⟩ | ⟨qa, qb⟩
   rotate_left
   . exact zq393
   exact zq393
 . go_upto_region 22 with fail
   rcases beqC (bits .and .i64 (g.status / 256) 1) (f.mode) with ⟨qa, qb⟩ | ⟨qa, qb⟩
   rotate_left
   . exact zq393
   rcases beqC (bits .and .i64 (g.status / 2) 1) (0) with ⟨qa, qb⟩ | ⟨qa, qb⟩
   rotate_left
   . exact zq393
   rcases beqC (bits .and .i64 (g.status / 32) 1) (bits .and .i64 (f.status / 2) 1) with ⟨qa, qb⟩ | ⟨qa, qb⟩
   rotate_left
   . exact zq393
   exact zq393
end
end Go.Proofs.YtmlgonbhoknoiabGreatDoor
