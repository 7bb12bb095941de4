import Derived.Test.YtmlgonbhoknoiabGreatDoorWBB
set_option maxHeartbeats 8000000
set_option linter.all false
namespace Go.Proofs.YtmlgonbhoknoiabGreatDoor
open Go.RowKit Go.Proofs.Tryz
section
attribute [local go_sem ↓] Go.wp_at_zero Go.wp_at_succ
def Sl (w0 : World) (fb : Nat) (f : Fc) (mb rb z : Nat) (w : World) : Prop := BoxF w fb f.l /\ Mz w mb rb z /\ Kept [] w0 w
theorem Sl.kept {w0 : World} {fb : Nat} {f : Fc} {mb rb z : Nat} {w w' : World} (h : Sl w0 fb f mb rb z w) (hk : Kept [] w w') : Sl w0 fb f mb rb z w' := ⟨h.1.kept hk, h.2.1.kept hk, h.2.2.trans hk⟩
theorem Sl.drewN {w0 : World} {fb : Nat} {f : Fc} {mb rb z : Nat} {w : World} (h : Sl w0 fb f mb rb z w) (n : Nat) : Sl w0 fb f mb rb z (w.drewN n) := h.kept ((Kept.refl [] w).drewN n)
set_option maxRecDepth 100000 in
theorem k_legal (mb rb z fb : Nat) (f : Fc) (w : World) (hs : Hid (Sl w fb f mb rb z w)) : Calls prog 53 #[.pointer (some ⟨mb, 0, none⟩), .pointer (some ⟨fb, 0, none⟩)] w fun o w' => BoolR o /\ Kept [] w w' := by
 go_enter func53, ntmps53
 have f0_1 := hs.out.1.cell 0 _ rfl
 have fl_1 := hs.out.1.lt
 go_upto_region 1 with fail
 go_cut [34] (fun q wx => (∃ b : Bool, q = .bool b) /\ Hid (Sl w fb f mb rb z wx))
 case first =>
  as_aux_lemma =>
   go_wp2_with fail
   all_goals
    go_meet
    case rel => exact ⟨⟨_, rfl⟩, hs⟩
 case rest =>
 obtain ⟨⟨bs, rfl⟩, s1⟩ := hcut
 clear hs f0_1 fl_1
 cases bs
 rotate_left
 . go_wp2_with fail
   go_ret
   exact ⟨⟨_, rfl⟩, s1.out.2.2⟩
 have f2_2 := s1.out.1.cell 2 _ rfl
 have f3_2 := s1.out.1.cell 3 _ rfl
 have f5_2 := s1.out.1.cell 5 _ rfl
 have f6_2 := s1.out.1.cell 6 _ rfl
 have fl_2 := s1.out.1.lt
 go_upto_region 3 with fail
 go_cut [73] (fun q wx => (∃ b : Bool, q = .bool b) /\ Hid (Sl w fb f mb rb z wx))
 case first =>
  exact zq390
 case rest =>
 obtain ⟨⟨bs, rfl⟩, s2⟩ := hcut
 clear s1 f2_2 f3_2 f5_2 f6_2 fl_2
 cases bs
 rotate_left
 . go_wp2_with fail
   go_ret
   exact ⟨⟨_, rfl⟩, s2.out.2.2⟩
 have f0_3 := s2.out.1.cell 0 _ rfl
 have f2_3 := s2.out.1.cell 2 _ rfl
 have fl_3 := s2.out.1.lt
 go_upto_region 5 with fail
 go_cut [87] (fun q wx => (∃ b : Bool, q = .bool b) /\ Hid (Sl w fb f mb rb z wx))
 case first =>
  as_aux_lemma =>
   go_wp2_with fail
   all_goals
    go_meet
    case rel => exact ⟨⟨_, rfl⟩, s2⟩
 case rest =>
 obtain ⟨⟨bs, rfl⟩, s3⟩ := hcut
 clear s2 f0_3 f2_3 fl_3
 cases bs
 rotate_left
 . go_wp2_with fail
   go_ret
   exact ⟨⟨_, rfl⟩, s3.out.2.2⟩
 go_wp2_with fail
 refine (k_csr mb rb _ _ (hide1 s3.out.2.1.m)).mono ?_
 rintro o w4 ⟨⟨ss, ss0, ss1, rfl⟩, hk⟩
 have s4 := hide1 (s3.out.kept hk)
 clear hk s3
 go_wp2_with fail
 refine (k_csr mb rb _ _ (hide1 s4.out.2.1.m)).mono ?_
 rintro o w5 ⟨⟨si, si0, si1, rfl⟩, hk⟩
 have s5 := hide1 (s4.out.kept hk)
 clear hk s4
 go_wp2_with fail
 refine (k_csr mb rb _ _ (hide1 s5.out.2.1.m)).mono ?_
 rintro o w6 ⟨⟨sp, sp0, sp1, rfl⟩, hk⟩
 have s6 := hide1 (s5.out.kept hk)
 clear hk s5
 have f2_7 := s6.out.1.cell 2 _ rfl
 have f3_7 := s6.out.1.cell 3 _ rfl
 have f4_7 := s6.out.1.cell 4 _ rfl
 have f5_7 := s6.out.1.cell 5 _ rfl
 have fl_7 := s6.out.1.lt
 go_upto_region 10 with fail
 go_cut [126] (fun q wx => (∃ b : Bool, q = .bool b) /\ Hid (Sl w fb f mb rb z wx))
 case first =>
  rcases beqC (ss) (bits .and .i64 f.status 786722) with ⟨qa, qb⟩ | ⟨qa, qb⟩
  rotate_left
  . exact zq391
  rcases beqC (si) (bits .and .i64 f.ie f.mideleg) with ⟨qa, qb⟩ | ⟨qa, qb⟩
  rotate_left
  . exact zq391
  exact zq391
 case rest =>
 obtain ⟨⟨bs, rfl⟩, s7⟩ := hcut
 clear s6 f2_7 f3_7 f4_7 f5_7 fl_7
 cases bs
 rotate_left
 . go_wp2_with fail
   go_ret
   exact ⟨⟨_, rfl⟩, s7.out.2.2⟩
 go_wp2_with fail
 refine (k_csr mb rb _ _ (hide1 s7.out.2.1.m)).mono ?_
 rintro o w8 ⟨⟨me, me0, me1, rfl⟩, hk⟩
 have s8 := hide1 (s7.out.kept hk)
 clear hk s7
 go_wp2_with fail
 refine (k_csr mb rb _ _ (hide1 s8.out.2.1.m)).mono ?_
 rintro o w9 ⟨⟨se, se0, se1, rfl⟩, hk⟩
 have s9 := hide1 (s8.out.kept hk)
 clear hk s8
 go_wp2_with fail
 refine (k_csr mb rb _ _ (hide1 s9.out.2.1.m)).mono ?_
 rintro o w10 ⟨⟨mt, mt0, mt1, rfl⟩, hk⟩
 have s10 := hide1 (s9.out.kept hk)
 clear hk s9
 go_wp2_with fail
 refine (k_csr mb rb _ _ (hide1 s10.out.2.1.m)).mono ?_
 rintro o w11 ⟨⟨st, st0, st1, rfl⟩, hk⟩
 have s11 := hide1 (s10.out.kept hk)
 clear hk s10
 have f1_12 := s11.out.1.cell 1 _ rfl
 have fl_12 := s11.out.1.lt
 go_upto_region 16 with fail
 go_cut [160] (fun q wx => (∃ b : Bool, q = .bool b) /\ Hid (Sl w fb f mb rb z wx))
 case first =>
  as_aux_lemma =>
   go_wp2_with fail
   all_goals
    go_meet
    case rel => exact ⟨⟨_, rfl⟩, s11⟩
 case rest =>
 obtain ⟨⟨bs, rfl⟩, s12⟩ := hcut
 clear s11 f1_12 fl_12
 cases bs
 rotate_left
 . go_wp2_with fail
   go_ret
   exact ⟨⟨_, rfl⟩, s12.out.2.2⟩
 go_wp2_with fail
 refine (k_csr mb rb _ _ (hide1 s12.out.2.1.m)).mono ?_
 rintro o w13 ⟨⟨c, c0, c1, rfl⟩, hk⟩
 have s13 := hide1 (s12.out.kept hk)
 clear hk s12
 go_wp2_with fail
 refine (k_csr mb rb _ _ (hide1 s13.out.2.1.m)).mono ?_
 rintro o w14 ⟨⟨i, i0, i1, rfl⟩, hk⟩
 have s14 := hide1 (s13.out.kept hk)
 clear hk s13
 go_wp2_with fail
 refine (k_csr mb rb _ _ (hide1 s14.out.2.1.m)).mono ?_
 rintro o w15 ⟨⟨mi, mi0, mi1, rfl⟩, hk⟩
 have s15 := hide1 (s14.out.kept hk)
 clear hk s14
 go_wp2_with fail
 refine (k_reg mb rb _ _ (hide1 s15.out.2.1.m)).mono ?_
 rintro o wz ⟨⟨zr, zr0, zr1, rfl⟩, hwz⟩
 rw [hwz]
 clear hwz wz
 have f9_16 := s15.out.1.cell 9 _ rfl
 have f11_16 := s15.out.1.cell 11 _ rfl
 have fl_16 := s15.out.1.lt
 go_wp2_with fail
 all_goals
  go_ret
  exact ⟨⟨_, rfl⟩, s15.out.2.2⟩
end
end Go.Proofs.YtmlgonbhoknoiabGreatDoor
