import Derived.Test.YtmlgonbhoknoiabGreatDoorBQ
namespace Go.Proofs.YtmlgonbhoknoiabGreatDoor
open Go.RowKit Go.Proofs.Tryz
theorem zp0 {p : Prop} (h : p := by show I.ln.toNat = 4; rw [h4]; rfl) : p := h
theorem zp1 {p : Prop} (h : p := by unfold xresD; simp; omega) : p := h
theorem zp2 {p : Prop} (h : p := by exact (Kept.refl _ _).alloc _) : p := h
theorem zp3 {p : Prop} (h : p := by exact ht.out.more ((Below.refl _ _).alloc (Nat.le_refl _) _)) : p := h
theorem zp4 {p : Prop} (h : p := by exact wrap_in _ (by omega)) : p := h
theorem zp5 {p : Prop} (h : p := by exact hide1 (K1.out.setCell (.inl (by simp)) _)) : p := h
theorem zp6 {p : Prop} (h : p := by rw [Int.tdiv_eq_ediv_of_nonneg (by omega)]; omega) : p := h
theorem zp7 {p : Prop} (h : p := by exact beq_eq_false_iff_ne.2 (by omega)) : p := h
theorem zp8 {p : Prop} (h : p := by exact hide1 (fun i h => (hL.out.pr i h).m.lt)) : p := h
theorem zp10 {p : Prop} (h : p := by
 unfold npcD behD
 have e : (niOf I).op = I.op := rfl
 have e' : (niOf I).ln = 4 := zp0
 rw [e, e', if_neg (by omega), if_neg (by omega), if_neg (by omega), if_neg (by omega), h.pc]
 omega) : p := h
theorem zp11 {p : Prop} (h : p := by rw [if_neg (by simp; omega), if_neg (by omega), if_neg (by omega), if_neg (by omega), hn hb]; omega) : p := h
theorem zp12 {p : Prop} (h : p := by
 show runG n (if (stepX X).1.1 = 0 then k + 1 else k) (stepX X).2 = _
 rw [e]; rfl) : p := h
theorem zp13 {p : Prop} (h : p := by
 rintro o w2 ⟨⟨v, er, q0, q1, rfl⟩, hm, hk⟩
 have M2 := hide1 hm
 have K2 := hide1 (kept_new K1.out hk l1 l2)
 clear hm hk M1 K1
 have RG := hide1 (fun i => m_Reg0 mb rb w2 M2.out.m i)
 go_wp2_with (first | (go_at_call 91; refine (RG.out _).mono ?_; rintro o wq ⟨⟨v, h0, h1, rfl⟩, hwq⟩; rw [hwq]; clear hwq wq))
 all_goals
  go_ret
  exact ⟨⟨_, rfl⟩, K2.out⟩) : p := h
theorem zp14 {p : Prop} (h : p := by
 have HK := hide1 hk
 clear hk
 go_wp2_with fail
 go_ret
 exact ⟨⟨_, rfl⟩, HK.out⟩) : p := h
theorem zp15 {p : Prop} (h : p := by
 clear z hs
 exact zp16) : p := h
theorem zp16 {p : Prop} (h : p := by
 go_wp2_with fail
 exact zp59) : p := h
theorem zp17 {p : Prop} (h : p := by exact h.go q I ho.1.1 hk hc h.waits h.mode h.ram h.x hn hc' h.b) : p := h
theorem zp18 {p : Prop} (h : p := by
 rw [r2]
 rcases h3 with ⟨k, e, _⟩ | ⟨k, e⟩
 . rw [e, decide_eq_true (by omega)]; rfl
 . rw [e, decide_eq_false (by omega)]; rfl) : p := h
theorem zp19 {p : Prop} (h : p := by
 intro k
 have k := of_decide_eq_true k
 rw [r2]
 rcases h3 with ⟨_, _, e⟩ | ⟨k2, e⟩
 . exact e
 . omega) : p := h
theorem zp20 {p : Prop} (h : p := by
 cases yes
 . clear mc CQ
   replace RG : Hid (∀ W, XAt W mb rb Y -> CS 91 #[.pointer (some ⟨mb, 0, none⟩), .int .i64 10] (.int .i64 0) W) := RG
   have HZ := hide1 (of_decide_eq_false hy)
   go_wp2_with (go_at_call 91; refine (RG.out _ M4.out).mono ?_; rintro o wq ⟨rfl, hwq⟩; rw [hwq]; clear hwq wq)
   all_goals first
    | (exfalso; have := HZ.out; omega)
    | (go_ret; exact ⟨rfl, K4.out⟩)
 . rw [mc rfl] at CQ
   replace CQ : Hid (∀ W, XAt W mb rb Y -> CK 95 #[.pointer (some ⟨mb, 0, none⟩), .int .i64 834] (.int .i64 2147483655) W) := CQ
   replace RG : Hid (∀ W, XAt W mb rb Y -> CS 91 #[.pointer (some ⟨mb, 0, none⟩), .int .i64 10] (.int .i64 1) W) := RG
   clear mc
   have HZ := hide1 (of_decide_eq_true hy)
   go_wp2_with (first | (go_at_call 91; refine (RG.out _ M4.out).mono ?_; rintro o wq ⟨rfl, hwq⟩; rw [hwq]; clear hwq wq) | (go_at_call 95; refine (CQ.out _ M4.out).mono ?_; rintro o wq ⟨rfl, hkq⟩; have KQ := hide1 (K4.out.trans hkq); clear hkq))
   all_goals first
    | (exfalso; have := HZ.out; omega)
    | (go_ret; exact ⟨rfl, KQ.out⟩)) : p := h
theorem zp21 {p : Prop} (h : p := by
 go_wp2_with fail
 all_goals
  go_meet
  case rel => exact ⟨⟨_, rfl⟩, rfl⟩) : p := h
theorem zp22 {p : Prop} (h : p := by
 rintro e w1 ⟨⟨r, rfl⟩, hk⟩
 have K1 := hide1 (K0.out.trans hk)
 clear hk K0 T0
 exact zp24) : p := h
theorem zp23 {p : Prop} (h : p := by
 rintro e w1 ⟨rfl, hk⟩
 have K1 := hide1 (K0.out.trans hk)
 clear hk K0 T0
 go_wp2_with fail
 go_ret
 exact ⟨⟨true, rfl, hide1 (fun _ => rfl)⟩, K1.out⟩) : p := h
theorem zp24 {p : Prop} (h : p := by
 go_wp2_with fail
 go_ret
 exact ⟨⟨r, rfl, hide1 (by omega)⟩, K1.out⟩) : p := h
theorem zp25 {p : Prop} (h : p := by
 clear hb hx hw k0 ob0
 go_enter func17, ntmps17
 go_wp2_with fail
 refine N.out.mono ?_
 rintro o w1 ⟨rfl, rfl⟩
 go_wp2_with fail
 go_ret
 exact ⟨rfl, L0.out, B0.out⟩) : p := h
theorem zp26 {p : Prop} (h : p := by
 as_aux_lemma =>
  go_wp2_with fail
  obtain ⟨bx, kx⟩ := se.out.six gr (.int .i64 a0) (.int .i64 a1) (.int .i64 a2) (.int .i64 a3) (.int .i64 a4) (.int .i64 a5)
  exact at_ret _ rb _ _ _ _ _ _ _ (bx.alloc _) rfl ⟨⟨_, _, _, _, _, _, rfl⟩, kx.alloc _⟩) : p := h
theorem zp27 {p : Prop} (h : p := by
 as_aux_lemma =>
  go_wp2_with fail
  all_goals
   go_meet
   case rel => exact ⟨⟨_, rfl, hide1 (by simp)⟩, s0⟩) : p := h
theorem zp28 {p : Prop} (h : p := by exact at_ret _ rb _ _ _ _ _ _ _ bx rfl ⟨⟨_, _, _, _, _, _, rfl⟩, kx⟩) : p := h
theorem zp29 {p : Prop} (h : p := by
 go_wp2_with fail
 all_goals
  go_roundw
  case rel => exact ⟨i + 1, by omega, by go_num, hb, hk⟩
  case measure => simp [intOf]; omega) : p := h
theorem zp30 {p : Prop} (h : p := by
 go_wp2_with fail
 go_end0
 exact ⟨rfl, hb.out, hk.out⟩) : p := h
theorem zp31 {p : Prop} (h : p := by simp [intOf]; omega) : p := h
theorem zp32 {p : Prop} (h : p := by
 clear CV B2 K2
 exact zp36) : p := h
theorem zp33 {p : Prop} (h : p := by
 clear B2
 go_wp2_with fail
 refine CV.out.mono ?_
 rintro o w3 ⟨rfl, hb3, hk3⟩
 have B3 := hide1 hb3
 have K3 := hide1 (K2.out.trans hk3)
 clear hb3 hk3 K2 CV B1 K1 c3 e3 f3
 go_wp2_with fail
 go_roundw
 case rel => exact ⟨i + 1, by omega, by go_num, B3, K3⟩
 case measure => simp [intOf]; omega) : p := h
theorem zp34 {p : Prop} (h : p := by
 have hs4' : decide ((A : Int) + 4 > (s.size : Int)) = true := by simp; omega
 have hs4'' : decide ((s.size : Int) < (A : Int) + 4) = true := by simp; omega
 go_wp2_with fail
 (try simp only [Exit.inBlock, Exit.then])
 refine bodyPost_ret (results_none rfl _ _ _) rfl ?_
 exact ⟨rfl, hb.out, hk.out⟩) : p := h
theorem zp35 {p : Prop} (h : p := by
 have hlt' : decide ((i : Int) < 1024) = false := by simp; omega
 go_wp2_with fail
 go_end0
 exact ⟨rfl, hb.out, hk.out⟩) : p := h
theorem zp36 {p : Prop} (h : p := by
 go_wp2_with fail
 exact zp60) : p := h
theorem zp37 {p : Prop} (h : p := by
 go_wp2_with fail
 go_ret
 exact ⟨⟨tb, b0, b1, b2, b3, b4, rfl, ht.out⟩, hk.out⟩) : p := h
theorem zp38 {p : Prop} (h : p := by
 refine wpAnyH_ready (rs := [25]) (by kernel_rfl) (by simp) ?_
 refine AllReadyH.cons rfl (fun K hK => ?_) AllReadyH.nil
 go_simp
 refine (RR.out _ h1 _ _ _ (hide1 (ht.out.kept (Kept.refl [] _).drew))).mono ?_
 rintro o w1 ⟨rfl, ht1, hk1⟩
 refine hK.out _ _ (ST.out _ ((Kept.refl _ _).drew.trans hk1)) (fun hHeld => ?_)
 clear hK K
 try simp only [Act.put, List.setIfInBounds_toArray, List.set_cons_zero, List.set_cons_succ]
 refine wpAnyH_done (by kernel_rfl) ?_ _
 go_wp2_with fail
 go_ret
 exact ⟨⟨tb, b0, b1, b2, b3, b4, rfl, ht1⟩, hk.out.fresh ((Kept.refl _ _).drew.trans hk1) hfr.out⟩) : p := h
theorem zp39 {p : Prop} (h : p := by
 go_upto_region 2 with fail
 go_quiet (fail)
 all_goals
  go_wp2_with fail
  go_ret
  exact ⟨⟨_, rfl⟩, (Kept.refl _ _).drewN _⟩) : p := h
theorem zp40 {p : Prop} (h : p := by
 as_aux_lemma =>
  go_quiet (fail)
  all_goals
   go_wp2_with fail
   go_meet
   case rel => exact ⟨⟨_, rfl⟩, hide1 (hb.out.drewN _)⟩) : p := h
theorem zp41 {p : Prop} (h : p := by
 as_aux_lemma =>
  go_quiet (fail)
  all_goals
   go_wp2_with fail
   go_meet
   case rel => exact ⟨⟨_, rfl⟩, hide1 (h8.out.drewN _)⟩) : p := h
theorem zp42 {p : Prop} (h : p := by
 go_wp2_with fail
 go_ret
 exact ⟨⟨_, rfl⟩, s9.out.m, s9.out.kp⟩) : p := h
theorem zp43 {p : Prop} (h : p := by
 have f13_10 := s10.out.f.cell 13 _ rfl
 exact zp61) : p := h
theorem zp44 {p : Prop} (h : p := by
 obtain ⟨⟨bs, rfl⟩, s10⟩ := hcut
 clear s9 f13_9 g13_9 fl_9 gl_9
 clear i0_9 i1_9 i2_9 i3_9 i4_9 i5_9 il_9 d0_9 d1_9 dl_9
 cases bs
 rotate_left
 . exact zp47
 go_wp2_with fail
 refine (k_walled fb gb z f g zl okf okg _ (hide1 s10.out.f) (hide1 s10.out.g)).mono ?_
 rintro o w11 ⟨⟨r, rfl⟩, hk⟩
 have s11 := hide1 (s10.out.kept hk)
 clear hk s10
 have i0_11 := s11.out.i.cell 0 _ rfl
 have i1_11 := s11.out.i.cell 1 _ rfl
 have i2_11 := s11.out.i.cell 2 _ rfl
 have i3_11 := s11.out.i.cell 3 _ rfl
 have i4_11 := s11.out.i.cell 4 _ rfl
 have i5_11 := s11.out.i.cell 5 _ rfl
 have il_11 := s11.out.i.lt
 have d0_11 := s11.out.d.cell 0 _ rfl
 have d1_11 := s11.out.d.cell 1 _ rfl
 have dl_11 := s11.out.d.lt
 exact zp50) : p := h
theorem zp45 {p : Prop} (h : p := by
 as_aux_lemma =>
  go_quiet (fail)
  all_goals
   go_wp2_with fail
   go_meet
   case rel => exact ⟨⟨_, rfl⟩, hide1 (s9.out.drewN _)⟩) : p := h
theorem zp46 {p : Prop} (h : p := by
 go_wp2_with fail
 refine (k_returned mb rb z fb gb f g _ _ (hide1 s9.out.st)).mono ?_
 rintro o w10 ⟨⟨r, rfl⟩, hk⟩
 have s10 := hide1 (s9.out.kept hk)
 clear hk s9
 clear i0_9 i1_9 i2_9 i3_9 i4_9 i5_9 il_9 d0_9 d1_9 dl_9
 have i0_10 := s10.out.i.cell 0 _ rfl
 have i1_10 := s10.out.i.cell 1 _ rfl
 have i2_10 := s10.out.i.cell 2 _ rfl
 have i3_10 := s10.out.i.cell 3 _ rfl
 have i4_10 := s10.out.i.cell 4 _ rfl
 have i5_10 := s10.out.i.cell 5 _ rfl
 have il_10 := s10.out.i.lt
 have d0_10 := s10.out.d.cell 0 _ rfl
 have d1_10 := s10.out.d.cell 1 _ rfl
 have dl_10 := s10.out.d.lt
 cases r
 . exact zp47
 exact zp43) : p := h
theorem zp47 {p : Prop} (h : p := by
 go_wp2_with fail
 exact zp62) : p := h
theorem zp48 {p : Prop} (h : p := by
 obtain ⟨⟨bs, rfl⟩, s11⟩ := hcut
 exact zp63) : p := h
theorem zp49 {p : Prop} (h : p := by
 as_aux_lemma =>
  exact zp64) : p := h
theorem zp50 {p : Prop} (h : p := by
 go_wp2_with fail
 exact zp65) : p := h
theorem zp51 {p : Prop} (h : p := by
 go_wp2_with fail
 exact zp66) : p := h
theorem zp52 {p : Prop} (h : p := by
 as_aux_lemma =>
  go_quiet (fail)
  all_goals
   go_wp2_with fail
   go_ret
   exact ⟨⟨_, rfl⟩, s14.out.m.kept ((Kept.refl [] _).drewN _), (s14.out.kp.mono (by simp)).drewN _⟩) : p := h
theorem zp53 {p : Prop} (h : p := by
 go_wp2_with fail
 go_ret
 exact ⟨⟨_, rfl⟩, m1.out, K1.out.mono (by simp)⟩) : p := h
theorem zp54 {p : Prop} (h : p := by
 have q31 : (k == 31) = false := by simp; omega
 exact zp55) : p := h
theorem zp55 {p : Prop} (h : p := by
 have q32 : (k == 32) = false := by simp; omega
 exact zp56) : p := h
theorem zp56 {p : Prop} (h : p := by
 clear hk
 exact zp67) : p := h
theorem zp57 {p : Prop} (h : p := by
 go_wp2_with fail
 exact zp68) : p := h
theorem zp58 {p : Prop} (h : p := by
 go_wp2_with fail
 go_roundw
 case rel => exact ⟨n + 1, by omega, by go_num, HB2, HX2⟩
 case measure => simp [intOf]; omega) : p := h
theorem zp59 {p : Prop} (h : p := by
 refine FE.out.mono ?_
 rintro o w2 ⟨rfl, hx, hk⟩
 have M2 := hide1 hx
 have K2 := hide1 (kept_new K1.out hk l1 l2)
 clear hx hk K1 FE
 go_wp2_with fail
 refine (RN.out _ M2.out).mono ?_
 rintro o w3 ⟨rfl, hx, hk⟩
 have M3 := hide1 hx
 have K3 := hide1 (kept_new K2.out hk l1 l2)
 clear hx hk K2 M2 RN
 go_wp2_with fail
 refine (DR.out _ M3.out).mono ?_
 rintro o w4 ⟨rfl, hx, hk⟩
 have M4 := hide1 hx
 have K4 := hide1 (kept_new K3.out (show Kept [mb, rb] w3 w4 from hk.mono (by simp)) l1 l2)
 clear hx hk K3 M3 DR
 go_wp2_with (go_at_call 91; refine (RG.out _ M4.out).mono ?_; rintro o wq ⟨rfl, hwq⟩; rw [hwq]; clear hwq wq)
 go_ret
 exact ⟨rfl, K4.out⟩) : p := h
theorem zp60 {p : Prop} (h : p := by
 go_roundw
 case rel => exact ⟨i + 1, by omega, by go_num, B1, K1⟩
 case measure => simp [intOf]; omega) : p := h
theorem zp61 {p : Prop} (h : p := by
 have g13_10 := s10.out.g.cell 13 _ rfl
 have fl_10 := s10.out.f.lt
 have gl_10 := s10.out.g.lt
 go_upto_region 37 with fail
 go_cut [138] (fun q wx => (∃ b : Bool, q = .bool b) /\ Hid (Wt w fb gb ib db mb rb z f g a0 a1 a2 a3 a4 a5 0 c wx))
 case first =>
  as_aux_lemma =>
   exact zp64
 case rest =>
 obtain ⟨⟨bs, rfl⟩, s11⟩ := hcut
 exact zp63) : p := h
theorem zp62 {p : Prop} (h : p := by
 go_ret
 exact ⟨⟨_, rfl⟩, s10.out.m, s10.out.kp⟩) : p := h
theorem zp63 {p : Prop} (h : p := by
 clear s10 f13_10 g13_10 fl_10 gl_10
 exact zp69) : p := h
theorem zp64 {p : Prop} (h : p := by
 go_quiet (fail)
 all_goals
  go_wp2_with fail
  go_meet
  case rel => exact ⟨⟨_, rfl⟩, hide1 (s10.out.drewN _)⟩) : p := h
theorem zp65 {p : Prop} (h : p := by
 go_ret
 exact ⟨⟨_, rfl⟩, s11.out.m, s11.out.kp⟩) : p := h
theorem zp66 {p : Prop} (h : p := by
 go_ret
 exact ⟨⟨_, rfl⟩, s12.out.m, s12.out.kp⟩) : p := h
theorem zp67 {p : Prop} (h : p := by
 have q1 : (k == 1) = false := by simp [hk1]
 have qP : ((P.length : Int) == 0) = false := zp7
 have L0 := hide1 (hL.out.keep k0)
 have OB0 := hide1 (BoxF.new w [.int .i64 k, .int .i64 a, .int .i64 b, .int .i64 c, .string s] 36)
 have hl := hL.out.lt
 have hl' : ¬ wb = w.heap.size := by omega
 have lP : Hid (∀ i (h : i < P.length), P[i].mb < w.heap.size /\ P[i].rb < w.heap.size) := zp8
 obtain ⟨j, hj, pk⟩ := k_pickE a ha0 ha1 P.length hP0 (by omega)
 have PK := fun W => hide1 (pk W)
 have K0 := hide1 k0
 clear k0 ha0 ha1 hb0 hb1 hx ht pk
 go_enter func17, ntmps17
 go_wp2_with fail
 refine LA.out.mono ?_
 rintro o w1 ⟨⟨r, rfl, hr⟩, hk⟩
 have L1 := hide1 (L0.out.keep hk)
 have OB1 := hide1 (OB0.out.kept hk)
 have K1 := hide1 (K0.out.trans hk)
 have sl := hk.size
 clear LA hk L0 OB0 K0
 cases r
 . go_wp2_with fail
   exact zp68
 clear hr
 have d0 := L1.out.c0
 have e0 := (L1.out.keep (Kept.refl [] w1).drew).c0
 have o1 := (OB1.out.drew).cell 1 _ rfl
 have e1 : w1.drew.cell? ⟨g, j, none⟩ = some (.pointer (some ⟨P[j].mb, 0, none⟩)) := by
  rw [(L1.out.keep (Kept.refl [] w1).drew).ox.cellAt j (by omega)]
  simp [ptrs, hj]
 have hjj : (0 : Int) <= (j : Int) /\ (j : Int) < (P.length : Int) := by omega
 obtain ⟨p, hp⟩ := zn1 (P[j])
 rw [<- hp] at e1
 have HP := hide1 hp
 clear hp
 go_upto_region 11 with fail
 go_region_held3 (fun w' => w'.cell? ⟨w.heap.size, 1, none⟩ = some (.int .i64 a) /\ w'.cell? ⟨wb, 0, none⟩ = some (.slice (some ⟨g, 0, none⟩) P.length cap) /\ w'.cell? ⟨g, j, none⟩ = some (.pointer (some ⟨p.mb, 0, none⟩))) (first | exact ⟨o1, e0, e1⟩ | go_keep) (first | (go_at_call 28; refine (PK _).out.mono ?_; rintro e w2 ⟨rfl, rfl⟩))
 all_goals
  obtain ⟨W0, hW0⟩ := zn1 (w1.drew)
  have L2 := hide1 (L1.out.keep (Kept.refl [] w1).drew)
  have K2 := hide1 (K1.out.drew)
  have OB2 := hide1 (OB1.out.drew)
  rw [<- hW0] at L2 K2 OB2 o1 e0 e1 |-
  have o0 := OB2.out.cell 0 _ rfl
  have o2 := OB2.out.cell 2 _ rfl
  have o3 := OB2.out.cell 3 _ rfl
  have o4 := OB2.out.cell 4 _ rfl
  have p0 := L2.out.pr j hj
  have HW := hide1 hW0
  have G0 := L2.out.ge j hj
  rw [<- HP.out] at p0 G0
  have AA := AC p W0 p0
  have P0 := hide1 p0
  have GE := hide1 G0
  clear p0 AC PK hW0 L1 OB1 K1 d0 G0 e1
  go_wp2_with fail
  refine AA.out.mono ?_
  rintro e w3 ⟨⟨r, rfl, hr⟩, hm, hk⟩
  have L3 : Hid (Kw w3 wb P (.slice (some ⟨g, 0, none⟩) P.length cap)) := by
   rw [HP.out] at hm hk
   exact hide1 (L2.out.act j hj hm hk)
  have B3 : Hid (Below wb w w3) := hide1 ((kept_below K2.out (by simp) (by omega)).trans (kept_below hk (by simp; have := GE.out; omega) (Nat.le_of_lt L2.out.lt)))
  clear AA hm hk
  go_wp2_with fail
  go_ret
  exact ⟨⟨r, rfl, hr⟩, ⟨P, _, L3.out, by omega⟩, B3.out⟩) : p := h
theorem zp68 {p : Prop} (h : p := by
 go_ret
 exact ⟨⟨false, rfl, hide1 (fun h => hr.out (by omega))⟩, ⟨P, _, L1.out, by omega⟩, kept_below K1.out (by simp) (by omega)⟩) : p := h
theorem zp69 {p : Prop} (h : p := by
 clear i0_10 i1_10 i2_10 i3_10 i4_10 i5_10 il_10 d0_10 d1_10 dl_10
 cases bs
 rotate_left
 . go_wp2_with fail
   go_ret
   exact ⟨⟨_, rfl⟩, s11.out.m, s11.out.kp⟩
 go_wp2_with fail
 refine (k_walled fb gb z f g zl okf okg _ (hide1 s11.out.f) (hide1 s11.out.g)).mono ?_
 rintro o w12 ⟨⟨r, rfl⟩, hk⟩
 have s12 := hide1 (s11.out.kept hk)
 clear hk s11
 have i0_12 := s12.out.i.cell 0 _ rfl
 have i1_12 := s12.out.i.cell 1 _ rfl
 have i2_12 := s12.out.i.cell 2 _ rfl
 have i3_12 := s12.out.i.cell 3 _ rfl
 have i4_12 := s12.out.i.cell 4 _ rfl
 have i5_12 := s12.out.i.cell 5 _ rfl
 have il_12 := s12.out.i.lt
 have d0_12 := s12.out.d.cell 0 _ rfl
 have d1_12 := s12.out.d.cell 1 _ rfl
 have dl_12 := s12.out.d.lt
 go_wp2_with fail
 go_ret
 exact ⟨⟨_, rfl⟩, s12.out.m, s12.out.kp⟩) : p := h
theorem zp73 {p : Prop} (h : p := by intro e; cases e) : p := h
end Go.Proofs.YtmlgonbhoknoiabGreatDoor
