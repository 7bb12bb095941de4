import Derived.Test.YtmlgonbhoknoiabGreatDoorWBB
set_option maxHeartbeats 8000000
set_option linter.all false
namespace Go.Proofs.YtmlgonbhoknoiabGreatDoor
open Go.RowKit Go.Proofs.Tryz
section
attribute [local go_sem ↓] Go.wp_at_zero Go.wp_at_succ
set_option maxRecDepth 100000 in
theorem k_returnedM (mb rb z fb gb : Nat) (f g : Fc) (w : World) (hs : Hid (St w fb gb f g mb rb z w)) : Calls prog 59 #[.pointer (some ⟨mb, 0, none⟩), .pointer (some ⟨fb, 0, none⟩), .pointer (some ⟨gb, 0, none⟩), .int .i64 67] w fun o w' => BoolR o /\ Kept [] w w' := by
 go_enter func59, ntmps59
 have f14_1 := hs.out.1.cell 14 _ rfl
 have g14_1 := hs.out.2.1.cell 14 _ rfl
 have fl_1 := hs.out.1.lt
 have gl_1 := hs.out.2.1.lt
 go_upto_region 1 with fail
 go_cut [20] (fun q wx => (∃ b : Bool, q = .bool b) /\ Hid (St w fb gb f g mb rb z wx))
 case first =>
  exact zq407
 case rest =>
 obtain ⟨⟨bs1, rfl⟩, s1⟩ := hcut
 clear hs
 cases bs1
 rotate_left
 . go_wp2_with fail
   go_ret
   exact ⟨⟨_, rfl⟩, s1.out.2.2.2⟩
 go_wp2_with fail
 refine (k_csr mb rb _ _ (hide1 s1.out.2.2.1.m)).mono ?_
 rintro o w2 ⟨⟨ep, a0, b0, rfl⟩, hk⟩
 have s2 := hide1 (s1.out.kept hk)
 clear hk s1
 have f0_2 := s2.out.1.cell 0 _ rfl
 have f2_2 := s2.out.1.cell 2 _ rfl
 have g0_2 := s2.out.2.1.cell 0 _ rfl
 have g1_2 := s2.out.2.1.cell 1 _ rfl
 have g2_2 := s2.out.2.1.cell 2 _ rfl
 have fl_2 := s2.out.1.lt
 have gl_2 := s2.out.2.1.lt
 go_upto_region 6 with fail
 go_cut [84] (fun q wx => (∃ b : Bool, q = .bool b) /\ Hid (St w fb gb f g mb rb z wx))
 case first =>
  rcases beqC (f.mode) (3) with ⟨qa, qb⟩ | ⟨qa, qb⟩
  rotate_left
  . exact zq397
  rcases beqC (g.mode) (bits .and .i64 (f.status / 2048) 3) with ⟨qa, qb⟩ | ⟨qa, qb⟩
  rotate_left
  . exact zq397
  rcases beqC (g.pc) (ep) with ⟨qa, qb⟩ | ⟨qa, qb⟩
  rotate_left
  . exact zq397
  rcases beqC (bits .and .i64 (g.status / 8) 1) (bits .and .i64 (f.status / 128) 1) with ⟨qa, qb⟩ | ⟨qa, qb⟩
  rotate_left
  . exact zq397
  rcases beqC (bits .and .i64 (g.status / 128) 1) (1) with ⟨qa, qb⟩ | ⟨qa, qb⟩
  rotate_left
  . exact zq397
  exact zq397
 case rest =>
 obtain ⟨⟨bs3, rfl⟩, s3⟩ := hcut
 clear s2
 cases bs3
 rotate_left
 . go_wp2_with fail
   go_ret
   exact ⟨⟨_, rfl⟩, s3.out.2.2.2⟩
 have f2_3 := s3.out.1.cell 2 _ rfl
 have g2_3 := s3.out.2.1.cell 2 _ rfl
 have fl_3 := s3.out.1.lt
 have gl_3 := s3.out.2.1.lt
 go_upto_region 8 with fail
 rcases beqC (bits .andNot .i64 (bits .xor .i64 g.status f.status) 137352) (0) with ⟨qa, qb⟩ | ⟨qa, qb⟩
 rotate_left
 . exact zq406
 rcases beqC (bits .and .i64 (f.status / 2048) 3) (3) with ⟨qa, qb⟩ | ⟨qa, qb⟩
 . exact zq406
 exact zq406
end
end Go.Proofs.YtmlgonbhoknoiabGreatDoor
