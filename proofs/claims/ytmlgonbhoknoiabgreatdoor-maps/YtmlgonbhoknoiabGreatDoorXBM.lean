import Derived.Test.YtmlgonbhoknoiabGreatDoorXBH
set_option maxHeartbeats 8000000
set_option linter.all false
namespace Go.Proofs.YtmlgonbhoknoiabGreatDoor
open Go.RowKit Go.Proofs.Tryz
section
attribute [local go_sem ↓] Go.wp_at_zero Go.wp_at_succ
theorem fields_did : (prog.fieldsOf 45).toList.map (fun f => (f.name, f.type, f.offset)) = [("Kind", 3, 0), ("Cause", 3, 1)] := by kernel_rfl
theorem und_did : prog.underlying 45 = some (.struct (prog.fieldsOf 45)) := by kernel_rfl
theorem stood_did : prog.stoodInHeld 45 = false := by kernel_rfl
theorem eqFields_did (d : Nat) (a0 a1 b0 b1 : Int) (fs : List Field) (h : fs.map (fun f => (f.name, f.type, f.offset)) = [("Kind", 3, 0), ("Cause", 3, 1)]) (w : World) :
 (Op.eqFields (d + 1) #[.int .i64 a0, .int .i64 a1] #[.int .i64 b0, .int .i64 b1] fs).run prog w = .ok (a0 == b0 && a1 == b1) w := by
 rcases fs with _ | ⟨f0, fs⟩
 . simp at h
 rcases fs with _ | ⟨f1, fs⟩
 . simp at h
 rcases fs with _ | ⟨f2, fs⟩
 . simp only [List.map_cons, List.map_nil, List.cons.injEq, Prod.mk.injEq, and_true] at h
   obtain ⟨⟨n0, t0, o0⟩, n1, t1, o1⟩ := h
   simp [Op.eqFields, n0, n1, t0, t1, o0, o1, go_sem, part]
   by_cases h0 : a0 = b0 <;> by_cases h1 : a1 = b1 <;> simp [h0, h1]
 . simp at h
theorem neq_did (a0 a1 b0 b1 : Int) (w : World) : (binOp .neq 45 (.agg #[.int .i64 a0, .int .i64 a1]) (.agg #[.int .i64 b0, .int .i64 b1])).run prog w = .ok (.bool (!(a0 == b0 && a1 == b1))) w := by
 rw [run_neq_struct, show (10000 : Nat) = 9998 + 1 + 1 from rfl, run_equalIn_agg w (9998 + 1) 45 _ _ und_did stood_did, eqFields_did 9998 _ _ _ _ _ fields_did]
 rfl
def oneB (v : Int) : ByteArray := ⟨#[UInt8.ofNat v.toNat]⟩
theorem conv_one (v : Int) (h0 : 0 <= v) (h1 : v < 256) (W : World) : (convert 64 9 (.slice (some ⟨W.heap.size, 0, none⟩) 1 1)).run prog (W.alloc (.cells #[.int .u8 v] 5)) = .ok (.string (oneB v)) (W.alloc (.cells #[.int .u8 v] 5)) := by
 have h := run_convert_bytes_back (P := prog) (W.alloc (.cells #[.int .u8 v] 5)) 64 9 5 ⟨W.heap.size, 0, none⟩ 1 [UInt8.ofNat v.toNat] Tryz.underlying64 Tryz.underlying5 Tryz.underlying9 (fun j hj => by
  obtain rfl : j = 0 := by simpa using hj
  have : ((UInt8.ofNat v.toNat).toNat : Int) = v := by rw [UInt8.toNat_ofNat']; omega
  simp [Addr.add, this]
  omega)
 exact h
theorem slice_lo (s : ByteArray) (b : Nat) (h2 : b <= s.size) (w : World) : (Instr.slice 9 (.string s) none (some (.int .i64 (b : Int))) none).run prog w = .ok (.string (s.extract 0 b)) w := by
 have h2' : (b : Int) <= (s.size : Int) := by omega
 go_simp
theorem slice_hi (s : ByteArray) (a : Nat) (h2 : a <= s.size) (w : World) : (Instr.slice 9 (.string s) (some (.int .i64 (a : Int))) none none).run prog w = .ok (.string (s.extract a s.size)) w := by
 have h2' : (a : Int) <= (s.size : Int) := by omega
 go_simp
structure Sc (w0 : World) (mb rb z yb vb : Nat) (w : World) : Prop where
 m : Mz w mb rb z
 y : Mz w yb (yb + 1) z
 v : Mz w vb (vb + 1) z
 n0 : w0.heap.size <= yb
 n1 : yb + 2 <= vb
 lm : mb < w0.heap.size /\ rb < w0.heap.size
 kp : Kept [] w0 w
theorem Sc.kept {w0 : World} {mb rb z yb vb : Nat} {w w' : World} (h : Sc w0 mb rb z yb vb w) (hk : Kept [] w w') : Sc w0 mb rb z yb vb w' :=
 ⟨h.m.kept hk, h.y.kept hk, h.v.kept hk, h.n0, h.n1, h.lm, h.kp.trans hk⟩
theorem Sc.actY {w0 : World} {mb rb z yb vb : Nat} {w w' : World} (h : Sc w0 mb rb z yb vb w) (hm : Mz w' yb (yb + 1) z) (hk : Kept [yb, yb + 1] w w') : Sc w0 mb rb z yb vb w' := by
 have a := h.n0; have b := h.n1; have c := h.lm
 exact ⟨h.m.more hk (by simp; omega) (by simp; omega), hm, h.v.more hk (by simp; omega) (by simp; omega), a, b, c, h.kp.fresh hk (by simp; omega)⟩
theorem Sc.actV {w0 : World} {mb rb z yb vb : Nat} {w w' : World} (h : Sc w0 mb rb z yb vb w) (hm : Mz w' vb (vb + 1) z) (hk : Kept [vb, vb + 1] w w') : Sc w0 mb rb z yb vb w' := by
 have a := h.n0; have b := h.n1; have c := h.lm
 exact ⟨h.m.more hk (by simp; omega) (by simp; omega), h.y.more hk (by simp; omega) (by simp; omega), hm, a, b, c, h.kp.fresh hk (by simp; omega)⟩
set_option maxRecDepth 100000 in
theorem k_secret (mb rb z : Nat) (at0 wi : Int) (h0 : -9223372036854775808 <= at0) (h1 : at0 <= 9223372036854775807) (w : World) (hw : Hid (Mz w mb rb z)) : Calls prog 32 #[.pointer (some ⟨mb, 0, none⟩), .int .i64 at0, .int .i64 wi] w fun o w' => MPost w mb rb z o w' := by
 have zl := hw.out.le
 have ml := hw.out.m.lt
 go_enter func32, ntmps32
 go_wp2_with fail
 refine (k_look mb rb z w hw).mono ?_
 rintro o w1 ⟨⟨f, okf, rfl, hf⟩, hk1⟩
 obtain ⟨fb, hfb⟩ := zn1 (w.heap.size)
 rw [<- hfb] at hf |-
 have m1 := hide1 (hw.out.kept hk1)
 have K1 := hide1 hk1
 have F1 := hide1 hf
 clear hf hk1 hw hfb
 go_wp2_with fail
 refine (k_paged fb f w1 F1).mono ?_
 rintro o wp ⟨⟨on, rfl⟩, hwp⟩
 rw [hwp]
 clear hwp wp
 have c13 := F1.out.cell 13 _ rfl
 have fl := F1.out.lt
 have zr := okf.ram
 obtain ⟨s, hs⟩ := zn1 (f.ram)
 rw [<- hs] at c13 zr
 clear hs
 cases on
 . exact zq436
 by_cases hz : z = 0
 . have hz' : ((s.size : Int) == 0) = true := by rw [zr, hz]; rfl
   exact zq436
 have hz' : ((s.size : Int) == 0) = false := by rw [zr]; simp; omega
 have PK := hide1 (k_pick at0 h0 h1 z (by omega) (by omega) w1)
 have TO := hide1 (k_tablesOf fb z f zl okf w1 F1)
 clear okf hz
 subst zr
 go_wp2_with fail
 refine PK.out.mono ?_
 rintro o wp ⟨⟨j, hj, rfl⟩, hwp⟩
 rw [hwp]
 clear hwp wp PK
 go_wp2_with fail
 refine TO.out.mono ?_
 rintro o w2 ⟨⟨tb, b0, b1, b2, b3, b4, rfl, ht⟩, hk⟩
 have m2 := hide1 (m1.out.kept hk)
 have K2 := hide1 (K1.out.trans hk)
 clear TO hk m1 K1 F1 c13 fl hz'
 have hd := ht.hdr
 have t0 := hd.cell 0 _ rfl
 have t1 := hd.cell 1 _ rfl
 have tl := hd.lt
 have jd : Int.tdiv (j : Int) 4096 = ((j / 4096 : Nat) : Int) := zq145
 obtain ⟨J, hJ⟩ := zn1 (j / 4096 : Nat)
 obtain ⟨n, hn⟩ := zn1 ((s.size + 4095) / 4096 : Nat)
 rw [<- hJ] at jd
 have hJn : J < (s.size + 4095) / 4096 := by omega
 obtain ⟨r0, e0⟩ := ht.s0.cell J hJn
 obtain ⟨r1, e1⟩ := ht.s1.cell J hJn
 rw [<- hn] at t0 t1 hJn
 have jw : IntKind.i64.wrap (J : Int) = J := zq116
 have jl : (0 : Int) <= (J : Int) /\ (J : Int) < (n : Int) := by omega
 clear ht hd hn hJ
 go_upto_region 7 with fail
 go_cut [60] (fun q wx => (∃ b : Bool, q = .bool b) /\ wx = w2)
 case first =>
  cases r0 <;> cases r1
  all_goals
   as_aux_lemma =>
    go_wp2_with fail
    go_meet
    case rel => exact ⟨⟨_, rfl⟩, rfl⟩
 case rest =>
 obtain ⟨⟨bs, rfl⟩, hwx⟩ := hcut
 rw [hwx]
 clear hwx t0 t1 tl e0 e1 jd jw jl hJn
 cases bs
 rotate_left
 . go_wp2_with fail
   go_ret
   exact ⟨⟨_, rfl⟩, m2.out, K2.out.mono (by simp)⟩
 go_wp2_with fail
 refine (m_Copy mb rb s.size w2 m2.out).mono ?_
 rintro o w3 ⟨rfl, hy, hk⟩
 obtain ⟨yb, hyb⟩ := zn1 (w2.heap.size)
 rw [<- hyb] at hy |-
 have y0 : w.heap.size <= yb := by rw [hyb]; exact K2.out.size
 have y1 : yb + 2 <= w3.heap.size := hy.m.lt.2
 have m3 := hide1 (m2.out.kept hk)
 have K3 := hide1 (K2.out.trans hk)
 have Y3 := hide1 hy
 clear hk hy hyb m2 K2
 go_wp2_with fail
 refine (m_Copy mb rb s.size w3 m3.out).mono ?_
 rintro o w4 ⟨rfl, hv, hk⟩
 obtain ⟨vb, hvb⟩ := zn1 (w3.heap.size)
 rw [<- hvb] at hv |-
 have s4 : Hid (Sc w mb rb s.size yb vb w4) := hide1 ⟨m3.out.kept hk, Y3.out.kept hk, hv, y0, by omega, ml, K3.out.trans hk⟩
 clear hk hv hvb m3 K3 Y3 y0 y1
 have cb1 := conv_one (wi % 256) (by omega) (by omega)
 have cb2 := conv_one (wi / 256 % 256) (by omega) (by omega) (w4.alloc (.cells #[.int .u8 (wi % 256)] 5))
 rw [show (w4.alloc (.cells #[.int .u8 (wi % 256)] 5)).heap.size = w4.heap.size + 1 by simp] at cb2
 obtain ⟨X1, hX1⟩ := zn2 (oneB (wi % 256))
 obtain ⟨X2, hX2⟩ := zn2 (oneB (wi / 256 % 256))
 rw [hX1] at cb1
 rw [hX2] at cb2
 clear hX1 hX2
 have s5 := hide1 (s4.out.kept (((Kept.refl [] w4).alloc (.cells #[.int .u8 (wi % 256)] 5)).alloc (.cells #[.int .u8 (wi / 256 % 256)] 5)))
 clear s4
 go_wp2_with fail
 obtain ⟨W5, hW5⟩ := zn1 ((w4.alloc (.cells #[.int .u8 (wi % 256)] 5)).alloc (.cells #[.int .u8 (wi / 256 % 256)] 5))
 rw [<- hW5] at s5 |-
 clear hW5 cb1 cb2
 refine (m_Load yb (yb + 1) s.size _ _ _ s5.out.y).mono ?_
 rintro o w6 ⟨⟨el, rfl⟩, hm, hk⟩
 have s6 := hide1 (s5.out.actY hm hk)
 clear hm hk s5
 go_wp2_with fail
 refine (m_Load vb (vb + 1) s.size _ _ _ s6.out.v).mono ?_
 rintro o w7 ⟨⟨em, rfl⟩, hm, hk⟩
 have s7 := hide1 (s6.out.actV hm hk)
 clear hm hk s6
 go_wp2_with fail
 refine (m_Step yb (yb + 1) s.size _ s7.out.y).mono ?_
 rintro o w8 ⟨⟨k, c, k0, k1, c0, c1, rfl⟩, hm, hk⟩
 have s8 := hide1 (s7.out.actY hm hk)
 clear hm hk s7 k0 k1 c0 c1
 have s9 := hide1 (s8.out.kept ((Kept.refl [] w8).alloc (.cells #[.int .i64 k, .int .i64 c] 45)))
 have B9 := hide1 (BoxF.new w8 [.int .i64 k, .int .i64 c] 45)
 obtain ⟨pb, hpb⟩ := zn1 (w8.heap.size)
 have lv := s8.out.v.m.lt
 have ly := s8.out.y.m.lt
 rw [<- hpb] at B9 lv ly
 clear s8
 go_wp2_with fail
 rw [<- hpb]
 simp only [List.toArray] at B9
 obtain ⟨W9, hW9⟩ := zn1 (w8.alloc (.cells #[.int .i64 k, .int .i64 c] 45))
 rw [<- hW9] at s9 B9 |-
 clear hW9 hpb
 refine (m_Step vb (vb + 1) s.size _ s9.out.v).mono ?_
 rintro o w10 ⟨⟨k', c', k0, k1, c0, c1, rfl⟩, hm, hk⟩
 have s10 := hide1 (s9.out.actV hm hk)
 have B10 := hide1 (B9.out.more hk (by simp; omega))
 clear hm hk s9 B9 k0 k1 c0 c1 lv ly
 obtain ⟨qb, hqb⟩ := zn1 (w10.heap.size)
 have ka := (Kept.refl [] w10).alloc (.cells #[.int .i64 k', .int .i64 c'] 45)
 have s11 := hide1 (s10.out.kept ka)
 have B11 := hide1 (B10.out.kept ka)
 have D11 := hide1 (BoxF.new w10 [.int .i64 k', .int .i64 c'] 45)
 rw [<- hqb] at D11
 clear ka s10 B10
 go_wp2_with fail
 rw [<- hqb]
 simp only [List.toArray] at D11
 obtain ⟨W11, hW11⟩ := zn1 (w10.alloc (.cells #[.int .i64 k', .int .i64 c'] 45))
 rw [<- hW11] at s11 B11 D11 |-
 clear hW11 hqb
 refine (m_Show yb (yb + 1) _ s11.out.y.m).mono ?_
 rintro o w12 ⟨⟨S1, sa, sb, rfl⟩, hk⟩
 have s12 := hide1 (s11.out.kept hk)
 have B12 := hide1 (B11.out.kept hk)
 have D12 := hide1 (D11.out.kept hk)
 clear hk s11 B11 D11 sa sb
 go_wp2_with fail
 refine (m_Show vb (vb + 1) _ s12.out.v.m).mono ?_
 rintro o w13 ⟨⟨S2, sa, sb, rfl⟩, hk⟩
 have s13 := hide1 (s12.out.kept hk)
 have B13 := hide1 (B12.out.kept hk)
 have D13 := hide1 (D12.out.kept hk)
 clear hk s12 B12 D12 sa sb
 have p0 := B13.out.cell 0 _ rfl
 have p1 := B13.out.cell 1 _ rfl
 have q0 := D13.out.cell 0 _ rfl
 have q1 := D13.out.cell 1 _ rfl
 have ne := fun W => neq_did k c k' c' W
 obtain ⟨bd, hbd⟩ := zn2 ((!(k == k' && c == c')) : Bool)
 simp only [hbd] at ne
 clear hbd
 go_upto_region 19 with fail
 go_cut [97] (fun q wx => (∃ b : Bool, q = .bool b) /\ Hid (Sc w mb rb s.size yb vb wx))
 case first =>
  cases bd
  all_goals
   as_aux_lemma =>
    go_wp2_with fail
    all_goals
     go_meet
     case rel => exact ⟨⟨_, rfl⟩, s13⟩
 case rest =>
 obtain ⟨⟨bs, rfl⟩, s14⟩ := hcut
 clear s13 B13 D13 p0 p1 q0 q1 ne
 cases bs
 rotate_left
 . go_wp2_with fail
   go_ret
   exact ⟨⟨_, rfl⟩, s14.out.m, s14.out.kp.mono (by simp)⟩
 go_wp2_with fail
 refine (k_ram yb (yb + 1) s.size _ (hide1 s14.out.y)).mono ?_
 rintro o wp ⟨⟨Q, hq, rfl⟩, hwp⟩
 rw [hwp]
 clear hwp wp
 go_wp2_with fail
 refine (k_ram vb (vb + 1) s.size _ (hide1 s14.out.v)).mono ?_
 rintro o wp ⟨⟨R, hr, rfl⟩, hwp⟩
 rw [hwp]
 clear hwp wp
 go_upto_region 23 with fail
 have jj : (j : Int) + 1 = ((j + 1 : Nat) : Int) := by omega
 have wj : IntKind.i64.wrap ((j : Int) + 1) = ((j + 1 : Nat) : Int) := by rw [wrap_in _ (by omega)]; omega
 have a1 := slice_lo Q j (by omega)
 have a2 := slice_lo R j (by omega)
 have a3 := slice_mid Q j (j + 1) (by omega) (by omega)
 have a4 := slice_mid R j (j + 1) (by omega) (by omega)
 have a5 := slice_hi Q (j + 1) (by omega)
 have a6 := slice_hi R (j + 1) (by omega)
 obtain ⟨Z1, z1⟩ := zn2 (Q.extract 0 j)
 obtain ⟨Z2, z2⟩ := zn2 (R.extract 0 j)
 obtain ⟨Z3, z3⟩ := zn2 (Q.extract j (j + 1))
 obtain ⟨Z4, z4⟩ := zn2 (R.extract j (j + 1))
 obtain ⟨Z5, z5⟩ := zn2 (Q.extract (j + 1) Q.size)
 obtain ⟨Z6, z6⟩ := zn2 (R.extract (j + 1) R.size)
 rw [z1] at a1
 rw [z2] at a2
 rw [z3] at a3
 rw [z4] at a4
 rw [z5] at a5
 rw [z6] at a6
 obtain ⟨L, hL⟩ := zn1 (j + 1 : Nat)
 rw [<- hL] at wj a3 a4 a5 a6
 clear z1 z2 z3 z4 z5 z6 hL hq hr jj hj
 cases e1 : (Z1.toList == Z2.toList)
 . exact zq435
 cases e2 : (Z3.toList == X1.toList)
 . exact zq435
 cases e3 : (Z4.toList == X2.toList)
 . exact zq435
 exact zq435
end
end Go.Proofs.YtmlgonbhoknoiabGreatDoor
