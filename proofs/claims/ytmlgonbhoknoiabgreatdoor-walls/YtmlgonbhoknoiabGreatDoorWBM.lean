import Derived.Test.YtmlgonbhoknoiabGreatDoorWBD
import Derived.Test.YtmlgonbhoknoiabGreatDoorWBF
import Derived.Test.YtmlgonbhoknoiabGreatDoorWBI
import Derived.Test.YtmlgonbhoknoiabGreatDoorWBL
set_option maxHeartbeats 8000000
set_option linter.all false
namespace Go.Proofs.YtmlgonbhoknoiabGreatDoor
open Go.RowKit Go.Proofs.Tryz
section
attribute [local go_sem ↓] Go.wp_at_zero Go.wp_at_succ
structure Wt (w0 : World) (fb gb ib db mb rb z : Nat) (f g : Fc) (a0 a1 a2 a3 a4 a5 k c : Int) (w : World) : Prop where
 f : BoxF w fb f.l
 g : BoxF w gb g.l
 i : BoxF w ib [.int .i64 a0, .int .i64 a1, .int .i64 a2, .int .i64 a3, .int .i64 a4, .int .i64 a5]
 d : BoxF w db [.int .i64 k, .int .i64 c]
 m : Mz w mb rb z
 kp : Kept [mb, rb] w0 w
theorem Wt.kept {w0 : World} {fb gb ib db mb rb z : Nat} {f g : Fc} {a0 a1 a2 a3 a4 a5 k c : Int} {w w' : World} (h : Wt w0 fb gb ib db mb rb z f g a0 a1 a2 a3 a4 a5 k c w) (hk : Kept [] w w') : Wt w0 fb gb ib db mb rb z f g a0 a1 a2 a3 a4 a5 k c w' :=
 ⟨h.f.kept hk, h.g.kept hk, h.i.kept hk, h.d.kept hk, h.m.kept hk, h.kp.trans (hk.mono (by simp))⟩
theorem Wt.drewN {w0 : World} {fb gb ib db mb rb z : Nat} {f g : Fc} {a0 a1 a2 a3 a4 a5 k c : Int} {w : World} (h : Wt w0 fb gb ib db mb rb z f g a0 a1 a2 a3 a4 a5 k c w) (n : Nat) : Wt w0 fb gb ib db mb rb z f g a0 a1 a2 a3 a4 a5 k c (w.drewN n) := h.kept ((Kept.refl [] w).drewN n)
theorem Wt.st {w0 : World} {fb gb ib db mb rb z : Nat} {f g : Fc} {a0 a1 a2 a3 a4 a5 k c : Int} {w : World} (h : Wt w0 fb gb ib db mb rb z f g a0 a1 a2 a3 a4 a5 k c w) : St w fb gb f g mb rb z w := ⟨h.f, h.g, h.m, Kept.refl _ _⟩
theorem Wt.sl {w0 : World} {fb gb ib db mb rb z : Nat} {f g : Fc} {a0 a1 a2 a3 a4 a5 k c : Int} {w : World} (h : Wt w0 fb gb ib db mb rb z f g a0 a1 a2 a3 a4 a5 k c w) : Sl w gb g mb rb z w := ⟨h.g, h.m, Kept.refl _ _⟩
set_option maxRecDepth 100000 in
theorem k_watched (mb rb z : Nat) (w : World) (hw : Hid (Mz w mb rb z)) : Calls prog 30 #[.pointer (some ⟨mb, 0, none⟩)] w fun o w' => MPost w mb rb z o w' := by
 have zl := hw.out.le
 have ml := hw.out.m.lt
 go_enter func30, ntmps30
 go_wp2_with fail
 refine (k_look mb rb z w hw).mono ?_
 rintro o w1 ⟨⟨f, okf, rfl, hf⟩, hk1⟩
 obtain ⟨fb, hfb⟩ := zn1 (w.heap.size)
 rw [<- hfb] at hf |-
 have s1 : Hid (Sl w fb f mb rb z w1) := hide1 ⟨hf, hw.out.kept hk1, hk1⟩
 have NF : Hid (¬ fb ∈ [mb, rb]) := hide1 (by simp; omega)
 clear hf hk1 hw hfb
 go_wp2_with fail
 refine (k_legal mb rb z fb f w1 (hide1 ⟨s1.out.1, s1.out.2.1, Kept.refl _ _⟩)).mono ?_
 rintro o w2 ⟨⟨r, rfl⟩, hk⟩
 have s2 := hide1 (s1.out.kept hk)
 clear hk s1
 cases r
 . go_wp2_with fail
   go_ret
   exact ⟨⟨_, rfl⟩, s2.out.2.1, s2.out.2.2.mono (by simp)⟩
 go_wp2_with fail
 refine (k_at fb z f zl okf w2 (hide1 s2.out.1)).mono ?_
 rintro o w3 ⟨⟨a0, a1, a2, a3, a4, a5, rfl⟩, hk⟩
 obtain ⟨ib, hib⟩ := zn1 (w3.heap.size)
 have bi := hide1 (BoxF.new w3 [.int .i64 a0, .int .i64 a1, .int .i64 a2, .int .i64 a3, .int .i64 a4, .int .i64 a5] 60)
 have s3 := hide1 (s2.out.kept (hk.alloc (.cells #[.int .i64 a0, .int .i64 a1, .int .i64 a2, .int .i64 a3, .int .i64 a4, .int .i64 a5] 60)))
 have hi3 : w.heap.size <= ib := by rw [hib]; exact (s2.out.2.2.trans hk).size
 clear hk s2
 go_wp2_with fail
 rw [<- hib] at bi |-
 obtain ⟨W3, hW3⟩ := zn1 (w3.alloc (.cells #[.int .i64 a0, .int .i64 a1, .int .i64 a2, .int .i64 a3, .int .i64 a4, .int .i64 a5] 60))
 simp only [List.toArray] at bi
 rw [<- hW3] at bi s3 |-
 clear hW3 hib
 refine (m_Step mb rb z W3 s3.out.2.1).mono ?_
 rintro o w4 ⟨⟨k, c, k0, k1, c0, c1, rfl⟩, hm, hk⟩
 have n1 := NF.out
 have n2 : ¬ ib ∈ [mb, rb] := by simp; omega
 have q4 : Hid (BoxF w4 fb f.l /\ BoxF w4 ib [.int .i64 a0, .int .i64 a1, .int .i64 a2, .int .i64 a3, .int .i64 a4, .int .i64 a5] /\ Mz w4 mb rb z /\ Kept [mb, rb] w w4) := hide1 ⟨s3.out.1.more hk n1, bi.out.more hk n2, hm, (s3.out.2.2.mono (by simp)).trans hk⟩
 clear hk hm s3 bi n1 n2
 obtain ⟨db, hdb⟩ := zn1 (w4.heap.size)
 have ka : Kept [] w4 (w4.alloc (.cells #[.int .i64 k, .int .i64 c] 45)) := zq136
 have q5 : Hid (BoxF (w4.alloc (.cells #[.int .i64 k, .int .i64 c] 45)) fb f.l /\ BoxF (w4.alloc (.cells #[.int .i64 k, .int .i64 c] 45)) ib [.int .i64 a0, .int .i64 a1, .int .i64 a2, .int .i64 a3, .int .i64 a4, .int .i64 a5] /\ BoxF (w4.alloc (.cells #[.int .i64 k, .int .i64 c] 45)) db [.int .i64 k, .int .i64 c] /\ Mz (w4.alloc (.cells #[.int .i64 k, .int .i64 c] 45)) mb rb z /\ Kept [mb, rb] w (w4.alloc (.cells #[.int .i64 k, .int .i64 c] 45))) := hide1 ⟨q4.out.1.kept ka, q4.out.2.1.kept ka, by rw [hdb]; exact BoxF.new w4 [.int .i64 k, .int .i64 c] _, q4.out.2.2.1.kept ka, q4.out.2.2.2.trans (ka.mono (by simp))⟩
 clear q4 ka
 go_wp2_with fail
 rw [<- hdb]
 obtain ⟨W4, hW4⟩ := zn1 (w4.alloc (.cells #[.int .i64 k, .int .i64 c] 45))
 rw [<- hW4] at q5 |-
 clear hW4 hdb
 refine (k_look mb rb z W4 (hide1 q5.out.2.2.2.1)).mono ?_
 rintro o w5 ⟨⟨g, okg, rfl, hg⟩, hk⟩
 obtain ⟨gb, hgb⟩ := zn1 (W4.heap.size)
 rw [<- hgb] at hg |-
 have s5 : Hid (Wt w fb gb ib db mb rb z f g a0 a1 a2 a3 a4 a5 k c w5) := hide1 ⟨q5.out.1.kept hk, hg, q5.out.2.1.kept hk, q5.out.2.2.1.kept hk, q5.out.2.2.2.1.kept hk, q5.out.2.2.2.2.trans (hk.mono (by simp))⟩
 clear hk q5 hg hgb hi3 ml
 go_wp2_with fail
 refine (k_legal mb rb z gb g _ (hide1 s5.out.sl)).mono ?_
 rintro o w6 ⟨⟨r, rfl⟩, hk⟩
 have s6 := hide1 (s5.out.kept hk)
 clear hk s5
 have i0_6 := s6.out.i.cell 0 _ rfl
 have i1_6 := s6.out.i.cell 1 _ rfl
 have i2_6 := s6.out.i.cell 2 _ rfl
 have i3_6 := s6.out.i.cell 3 _ rfl
 have i4_6 := s6.out.i.cell 4 _ rfl
 have i5_6 := s6.out.i.cell 5 _ rfl
 have il_6 := s6.out.i.lt
 have d0_6 := s6.out.d.cell 0 _ rfl
 have d1_6 := s6.out.d.cell 1 _ rfl
 have dl_6 := s6.out.d.lt
 cases r
 . go_wp2_with fail
   go_ret
   exact ⟨⟨_, rfl⟩, s6.out.m, s6.out.kp⟩
 go_wp2_with fail
 refine (k_chosen _ _ fb f _ (hide1 s6.out.f)).mono ?_
 rintro o w7 ⟨⟨r, rfl⟩, hk⟩
 have s7 := hide1 (s6.out.kept hk)
 clear hk s6
 clear i0_6 i1_6 i2_6 i3_6 i4_6 i5_6 il_6 d0_6 d1_6 dl_6
 have i0_7 := s7.out.i.cell 0 _ rfl
 have i1_7 := s7.out.i.cell 1 _ rfl
 have i2_7 := s7.out.i.cell 2 _ rfl
 have i3_7 := s7.out.i.cell 3 _ rfl
 have i4_7 := s7.out.i.cell 4 _ rfl
 have i5_7 := s7.out.i.cell 5 _ rfl
 have il_7 := s7.out.i.lt
 have d0_7 := s7.out.d.cell 0 _ rfl
 have d1_7 := s7.out.d.cell 1 _ rfl
 have dl_7 := s7.out.d.lt
 cases r
 . go_wp2_with fail
   go_ret
   exact ⟨⟨_, rfl⟩, s7.out.m, s7.out.kp⟩
 go_upto_if 36 with fail
 go_cut [8] (fun q wx => (∃ x : Int, q = .int .i64 x) /\ Hid (Wt w fb gb ib db mb rb z f g a0 a1 a2 a3 a4 a5 k c wx))
 case first =>
  rcases beqC a5 0 with ⟨qz, qy⟩ | ⟨qz, qy⟩
  all_goals
   as_aux_lemma =>
    go_wp2_with fail
    go_meet
    case rel => exact ⟨⟨_, rfl⟩, s7⟩
 case rest =>
 obtain ⟨⟨op, rfl⟩, s8⟩ := hcut
 clear s7
 clear i0_7 i1_7 i2_7 i3_7 i4_7 i5_7 il_7 d0_7 d1_7 dl_7
 have i0_8 := s8.out.i.cell 0 _ rfl
 have i1_8 := s8.out.i.cell 1 _ rfl
 have i2_8 := s8.out.i.cell 2 _ rfl
 have i3_8 := s8.out.i.cell 3 _ rfl
 have i4_8 := s8.out.i.cell 4 _ rfl
 have i5_8 := s8.out.i.cell 5 _ rfl
 have il_8 := s8.out.i.lt
 have d0_8 := s8.out.d.cell 0 _ rfl
 have d1_8 := s8.out.d.cell 1 _ rfl
 have dl_8 := s8.out.d.lt
 go_wp2_with fail
 refine (k_counted gb g _ _ _ fb f _ (hide1 s8.out.f) (hide1 s8.out.g)).mono ?_
 rintro o w9 ⟨⟨r, rfl⟩, hk⟩
 have s9 := hide1 (s8.out.kept hk)
 clear hk s8
 clear i0_8 i1_8 i2_8 i3_8 i4_8 i5_8 il_8 d0_8 d1_8 dl_8
 have i0_9 := s9.out.i.cell 0 _ rfl
 have i1_9 := s9.out.i.cell 1 _ rfl
 have i2_9 := s9.out.i.cell 2 _ rfl
 have i3_9 := s9.out.i.cell 3 _ rfl
 have i4_9 := s9.out.i.cell 4 _ rfl
 have i5_9 := s9.out.i.cell 5 _ rfl
 have il_9 := s9.out.i.lt
 have d0_9 := s9.out.d.cell 0 _ rfl
 have d1_9 := s9.out.d.cell 1 _ rfl
 have dl_9 := s9.out.d.lt
 cases r
 . exact zq409
 have kk : k = 0 \/ k = 1 \/ k = 2 \/ k = 3 := by omega
 clear k0 k1 c0 c1
 rcases kk with rfl | rfl | rfl | rfl
 . rcases beqC a5 0 with ⟨pz, py⟩ | ⟨pz, py⟩
   . have f13_9 := s9.out.f.cell 13 _ rfl
     have g13_9 := s9.out.g.cell 13 _ rfl
     have fl_9 := s9.out.f.lt
     have gl_9 := s9.out.g.lt
     go_upto_region 37 with fail
     go_cut [138] (fun q wx => (∃ b : Bool, q = .bool b) /\ Hid (Wt w fb gb ib db mb rb z f g a0 a1 a2 a3 a4 a5 0 c wx))
     case first =>
      exact zq412
     case rest =>
     exact zq411
   have f0_9 := s9.out.f.cell 0 _ rfl
   have g0_9 := s9.out.g.cell 0 _ rfl
   have fl_9 := s9.out.f.lt
   have gl_9 := s9.out.g.lt
   rcases beqC a0 0 with ⟨e0, e0x⟩ | ⟨e0, e0x⟩
   . exact zq409
   rcases beqC a0 40 with ⟨e1, e1x⟩ | ⟨e1, e1x⟩
   . exact zq409
   rcases beqC a0 41 with ⟨e2, e2x⟩ | ⟨e2, e2x⟩
   . exact zq409
   rcases beqC a0 67 with ⟨e3, e3x⟩ | ⟨e3, e3x⟩
   . exact zq413
   rcases beqC a0 68 with ⟨e4, e4x⟩ | ⟨e4, e4x⟩
   . exact zq413
   go_upto_region 35 with fail
   go_cut [119] (fun q wx => (∃ b : Bool, q = .bool b) /\ Hid (Wt w fb gb ib db mb rb z f g a0 a1 a2 a3 a4 a5 0 c wx))
   case first =>
    exact zq412
   case rest =>
   obtain ⟨⟨bm, rfl⟩, s10⟩ := hcut
   clear s9 f0_9 g0_9 fl_9 gl_9
   clear i0_9 i1_9 i2_9 i3_9 i4_9 i5_9 il_9 d0_9 d1_9 dl_9
   have i0_10 := s10.out.i.cell 0 _ rfl
   have i1_10 := s10.out.i.cell 1 _ rfl
   have i2_10 := s10.out.i.cell 2 _ rfl
   have i3_10 := s10.out.i.cell 3 _ rfl
   have i4_10 := s10.out.i.cell 4 _ rfl
   have i5_10 := s10.out.i.cell 5 _ rfl
   have il_10 := s10.out.i.lt
   have d0_10 := s10.out.d.cell 0 _ rfl
   have d1_10 := s10.out.d.cell 1 _ rfl
   have dl_10 := s10.out.d.lt
   cases bm
   rotate_left
   . exact zq414
   exact zq410
 . go_wp2_with fail
   refine (k_trapped mb rb z fb gb f g _ _ _ (hide1 s9.out.st)).mono ?_
   rintro o w10 ⟨⟨r, rfl⟩, hk⟩
   have s10 := hide1 (s9.out.kept hk)
   clear hk s9
   clear i0_9 i1_9 i2_9 i3_9 i4_9 i5_9 il_9 d0_9 d1_9 dl_9
   have i0_10 := s10.out.i.cell 0 _ rfl
   have i1_10 := s10.out.i.cell 1 _ rfl
   have i2_10 := s10.out.i.cell 2 _ rfl
   have i3_10 := s10.out.i.cell 3 _ rfl
   have i4_10 := s10.out.i.cell 4 _ rfl
   have i5_10 := s10.out.i.cell 5 _ rfl
   have il_10 := s10.out.i.lt
   have d0_10 := s10.out.d.cell 0 _ rfl
   have d1_10 := s10.out.d.cell 1 _ rfl
   have dl_10 := s10.out.d.lt
   cases r
   . exact zq414
   rcases beqC a5 0 with ⟨pz, py⟩ | ⟨pz, py⟩
   . have f13_10 := s10.out.f.cell 13 _ rfl
     have g13_10 := s10.out.g.cell 13 _ rfl
     have fl_10 := s10.out.f.lt
     have gl_10 := s10.out.g.lt
     go_upto_region 37 with fail
     go_cut [138] (fun q wx => (∃ b : Bool, q = .bool b) /\ Hid (Wt w fb gb ib db mb rb z f g a0 a1 a2 a3 a4 a5 1 c wx))
     case first =>
      exact zq416
     case rest =>
     exact zq415
   go_wp2_with fail
   refine (k_sensible _ _ _ _ _ _ _ fb f _ (hide1 s10.out.f)).mono ?_
   rintro o w11 ⟨⟨r, rfl⟩, hk⟩
   have s11 := hide1 (s10.out.kept hk)
   clear hk s10
   clear i0_10 i1_10 i2_10 i3_10 i4_10 i5_10 il_10 d0_10 d1_10 dl_10
   have i0_11 := s11.out.i.cell 0 _ rfl
   have i1_11 := s11.out.i.cell 1 _ rfl
   have i2_11 := s11.out.i.cell 2 _ rfl
   have i3_11 := s11.out.i.cell 3 _ rfl
   have i4_11 := s11.out.i.cell 4 _ rfl
   have i5_11 := s11.out.i.cell 5 _ rfl
   have il_11 := s11.out.i.lt
   have d0_11 := s11.out.d.cell 0 _ rfl
   have d1_11 := s11.out.d.cell 1 _ rfl
   have dl_11 := s11.out.d.lt
   cases r
   . exact zq417
   have f13_11 := s11.out.f.cell 13 _ rfl
   have g13_11 := s11.out.g.cell 13 _ rfl
   have fl_11 := s11.out.f.lt
   have gl_11 := s11.out.g.lt
   go_upto_region 37 with fail
   go_cut [138] (fun q wx => (∃ b : Bool, q = .bool b) /\ Hid (Wt w fb gb ib db mb rb z f g a0 a1 a2 a3 a4 a5 1 c wx))
   case first =>
    as_aux_lemma =>
     go_quiet (fail)
     all_goals
      go_wp2_with fail
      go_meet
      case rel => exact ⟨⟨_, rfl⟩, hide1 (s11.out.drewN _)⟩
   case rest =>
   obtain ⟨⟨bs, rfl⟩, s12⟩ := hcut
   clear s11 f13_11 g13_11 fl_11 gl_11
   clear i0_11 i1_11 i2_11 i3_11 i4_11 i5_11 il_11 d0_11 d1_11 dl_11
   cases bs
   rotate_left
   . exact zq418
   go_wp2_with fail
   refine (k_walled fb gb z f g zl okf okg _ (hide1 s12.out.f) (hide1 s12.out.g)).mono ?_
   rintro o w13 ⟨⟨r, rfl⟩, hk⟩
   have s13 := hide1 (s12.out.kept hk)
   clear hk s12
   have i0_13 := s13.out.i.cell 0 _ rfl
   have i1_13 := s13.out.i.cell 1 _ rfl
   have i2_13 := s13.out.i.cell 2 _ rfl
   have i3_13 := s13.out.i.cell 3 _ rfl
   have i4_13 := s13.out.i.cell 4 _ rfl
   have i5_13 := s13.out.i.cell 5 _ rfl
   have il_13 := s13.out.i.lt
   have d0_13 := s13.out.d.cell 0 _ rfl
   have d1_13 := s13.out.d.cell 1 _ rfl
   have dl_13 := s13.out.d.lt
   go_wp2_with fail
   go_ret
   exact ⟨⟨_, rfl⟩, s13.out.m, s13.out.kp⟩
 . go_wp2_with fail
   refine (k_trapped mb rb z fb gb f g _ _ _ (hide1 s9.out.st)).mono ?_
   rintro o w10 ⟨⟨r, rfl⟩, hk⟩
   have s10 := hide1 (s9.out.kept hk)
   clear hk s9
   clear i0_9 i1_9 i2_9 i3_9 i4_9 i5_9 il_9 d0_9 d1_9 dl_9
   have i0_10 := s10.out.i.cell 0 _ rfl
   have i1_10 := s10.out.i.cell 1 _ rfl
   have i2_10 := s10.out.i.cell 2 _ rfl
   have i3_10 := s10.out.i.cell 3 _ rfl
   have i4_10 := s10.out.i.cell 4 _ rfl
   have i5_10 := s10.out.i.cell 5 _ rfl
   have il_10 := s10.out.i.lt
   have d0_10 := s10.out.d.cell 0 _ rfl
   have d1_10 := s10.out.d.cell 1 _ rfl
   have dl_10 := s10.out.d.lt
   cases r
   . exact zq414
   have f13_10 := s10.out.f.cell 13 _ rfl
   have g13_10 := s10.out.g.cell 13 _ rfl
   have fl_10 := s10.out.f.lt
   have gl_10 := s10.out.g.lt
   go_upto_region 37 with fail
   go_cut [138] (fun q wx => (∃ b : Bool, q = .bool b) /\ Hid (Wt w fb gb ib db mb rb z f g a0 a1 a2 a3 a4 a5 2 c wx))
   case first =>
    exact zq416
   case rest =>
   exact zq415
 . have f13_9 := s9.out.f.cell 13 _ rfl
   have g13_9 := s9.out.g.cell 13 _ rfl
   have fl_9 := s9.out.f.lt
   have gl_9 := s9.out.g.lt
   go_upto_region 37 with fail
   go_cut [138] (fun q wx => (∃ b : Bool, q = .bool b) /\ Hid (Wt w fb gb ib db mb rb z f g a0 a1 a2 a3 a4 a5 3 c wx))
   case first =>
    exact zq412
   case rest =>
   exact zq411
end
end Go.Proofs.YtmlgonbhoknoiabGreatDoor
