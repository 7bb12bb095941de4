import Derived.Test.YtmlgonbhoknoiabGreatDoorWBI
import Derived.Test.YtmlgonbhoknoiabGreatDoorWBN
set_option maxHeartbeats 8000000
set_option linter.all false
namespace Go.Proofs.YtmlgonbhoknoiabGreatDoor
open Go.RowKit Go.Proofs.Tryz
section
attribute [local go_sem ↓] Go.wp_at_zero Go.wp_at_succ
theorem fields_did : (prog.fieldsOf 45).toList.map (fun f => (f.name, f.type, f.offset)) = [("Kind", 3, 0), ("Cause", 3, 1)] := by kernel_rfl
theorem und_did : prog.underlying 45 = some (.struct (prog.fieldsOf 45)) := by kernel_rfl
theorem stood_did : prog.stoodInHeld 45 = false := by kernel_rfl
theorem eqFields_did (d : Nat) (a0 a1 b0 b1 : Int) (fs : List Field) (h : fs.map (fun f => (f.name, f.type, f.offset)) = [("Kind", 3, 0), ("Cause", 3, 1)]) (w : World) :
 (Op.eqFields (d + 1) #[.int .i64 a0, .int .i64 a1] #[.int .i64 b0, .int .i64 b1] fs).run prog w = .ok (a0 == b0 && a1 == b1) w := by
 rcases fs with _ | ⟨f0, fs⟩
 . simp at h
 rcases fs with _ | ⟨f1, fs⟩
 . simp at h
 rcases fs with _ | ⟨f2, fs⟩
 . simp only [List.map_cons, List.map_nil, List.cons.injEq, Prod.mk.injEq, and_true] at h
   obtain ⟨⟨n0, t0, o0⟩, n1, t1, o1⟩ := h
   simp [Op.eqFields, n0, n1, t0, t1, o0, o1, go_sem, part]
   by_cases h0 : a0 = b0 <;> by_cases h1 : a1 = b1 <;> simp [h0, h1]
 . simp at h
theorem neq_did (a0 a1 b0 b1 : Int) (w : World) : (binOp .neq 45 (.agg #[.int .i64 a0, .int .i64 a1]) (.agg #[.int .i64 b0, .int .i64 b1])).run prog w = .ok (.bool (!(a0 == b0 && a1 == b1))) w := by
 rw [run_neq_struct, show (10000 : Nat) = 9998 + 1 + 1 from rfl, run_equalIn_agg w (9998 + 1) 45 _ _ und_did stood_did, eqFields_did 9998 _ _ _ _ _ fields_did]
 rfl
theorem conv_one (v : Int) (h0 : 0 <= v) (h1 : v < 256) (W : World) : (convert 64 9 (.slice (some ⟨W.heap.size, 0, none⟩) 1 1)).run prog (W.alloc (.cells #[.int .u8 v] 5)) = .ok (.string (oneB v)) (W.alloc (.cells #[.int .u8 v] 5)) := by
 have h := run_convert_bytes_back (P := prog) (W.alloc (.cells #[.int .u8 v] 5)) 64 9 5 ⟨W.heap.size, 0, none⟩ 1 [UInt8.ofNat v.toNat] Tryz.underlying64 Tryz.underlying5 Tryz.underlying9 (fun j hj => by
  obtain rfl : j = 0 := by simpa using hj
  have : ((UInt8.ofNat v.toNat).toNat : Int) = v := by rw [UInt8.toNat_ofNat']; omega
  simp [Addr.add, this]
  omega)
 exact h
theorem slice_lo (s : ByteArray) (b : Nat) (h2 : b <= s.size) (w : World) : (Instr.slice 9 (.string s) none (some (.int .i64 (b : Int))) none).run prog w = .ok (.string (s.extract 0 b)) w := by
 have h2' : (b : Int) <= (s.size : Int) := by omega
 go_simp
theorem slice_hi (s : ByteArray) (a : Nat) (h2 : a <= s.size) (w : World) : (Instr.slice 9 (.string s) (some (.int .i64 (a : Int))) none none).run prog w = .ok (.string (s.extract a s.size)) w := by
 have h2' : (a : Int) <= (s.size : Int) := by omega
 go_simp
structure Sc (w0 : World) (mb rb : Nat) (X Y V : XS) (yb vb : Nat) (w : World) : Prop where
 m : XAt w mb rb X
 y : XAt w yb (yb + 1) Y
 v : XAt w vb (vb + 1) V
 n0 : w0.heap.size <= yb
 n1 : yb + 2 <= vb
 lm : mb < w0.heap.size /\ rb < w0.heap.size
 kp : Kept [] w0 w
theorem Sc.kept {w0 : World} {mb rb : Nat} {X Y V : XS} {yb vb : Nat} {w w' : World} (h : Sc w0 mb rb X Y V yb vb w) (hk : Kept [] w w') : Sc w0 mb rb X Y V yb vb w' :=
 ⟨h.m.kept hk, h.y.kept hk, h.v.kept hk, h.n0, h.n1, h.lm, h.kp.trans hk⟩
theorem Sc.actY {w0 : World} {mb rb : Nat} {X Y V : XS} {yb vb : Nat} {w w' : World} (h : Sc w0 mb rb X Y V yb vb w) {Y' : XS} (hm : XAt w' yb (yb + 1) Y') (hk : Kept [yb, yb + 1] w w') : Sc w0 mb rb X Y' V yb vb w' := by
 have a := h.n0; have b := h.n1; have c := h.lm
 exact ⟨h.m.more hk (by simp; omega) (by simp; omega), hm, h.v.more hk (by simp; omega) (by simp; omega), a, b, c, h.kp.fresh hk (by simp; omega)⟩
theorem Sc.actV {w0 : World} {mb rb : Nat} {X Y V : XS} {yb vb : Nat} {w w' : World} (h : Sc w0 mb rb X Y V yb vb w) {V' : XS} (hm : XAt w' vb (vb + 1) V') (hk : Kept [vb, vb + 1] w w') : Sc w0 mb rb X Y V' yb vb w' := by
 have a := h.n0; have b := h.n1; have c := h.lm
 exact ⟨h.m.more hk (by simp; omega) (by simp; omega), h.y.more hk (by simp; omega) (by simp; omega), hm, a, b, c, h.kp.fresh hk (by simp; omega)⟩
structure Eqs (Q R X1 X2 : ByteArray) (j : Nat) : Prop where
 z : j + 1 <= Q.size /\ j + 1 <= R.size
 a : ((Q.extract 0 j).toList == (R.extract 0 j).toList) = true
 b : ((Q.extract j (j + 1)).toList == X1.toList) = true
 c : ((R.extract j (j + 1)).toList == X2.toList) = true
 d : ((Q.extract (j + 1) Q.size).toList == (R.extract (j + 1) R.size).toList) = true
theorem ext_eq {A B : ByteArray} (h : A.data.toList = B.data.toList) : (A.toList == B.toList) = true := by
 have : A = B := by
  obtain ⟨a⟩ := A
  obtain ⟨b⟩ := B
  have : a = b := Array.toList_inj.1 h
  rw [this]
 rw [this]; simp
theorem eqs_of (r : List UInt8) (j : Nat) (h : j < r.length) (a b : Int) : Eqs (pkB (r.set j (UInt8.ofNat a.toNat)) 0 r.length) (pkB (r.set j (UInt8.ofNat b.toNat)) 0 r.length) (oneB a) (oneB b) j := by
 have l : ∀ u : UInt8, (r.set j u).length = r.length := fun u => List.length_set
 have z : ∀ u : UInt8, (pkB (r.set j u) 0 r.length).size = r.length := fun u => pkB_size _ _ _ (by rw [l]; omega)
 have e : ∀ (u : UInt8) (x y : Nat), y <= r.length -> ((pkB (r.set j u) 0 r.length).extract x y).data.toList = ((r.set j u).take y).drop x := fun u x y hy => by
  have := pk_ext (r.set j u) x y (by rw [l]; exact hy)
  rw [l] at this
  exact this
 have one : ∀ u : UInt8, ((r.set j u).take (j + 1)).drop j = [u] := by
  intro u
  apply List.ext_getElem?
  intro i
  rw [List.getElem?_drop, List.getElem?_take]
  cases i with
  | zero => rw [if_pos (by omega), Nat.add_zero, List.getElem?_set_self h]; rfl
  | succ i => rw [if_neg (by omega)]; rfl
 refine ⟨⟨by rw [z]; omega, by rw [z]; omega⟩, ext_eq ?_, ext_eq ?_, ext_eq ?_, ext_eq ?_⟩
 . rw [e _ _ _ (by omega), e _ _ _ (by omega), List.take_set_of_le (by omega), List.take_set_of_le (by omega)]
 . rw [e _ _ _ (by omega), one]; rfl
 . rw [e _ _ _ (by omega), one]; rfl
 . rw [z, z, e _ _ _ (by omega), e _ _ _ (by omega), List.take_of_length_le (by rw [l]; omega), List.take_of_length_le (by rw [l]; omega)]
   rw [List.drop_set_of_lt (by omega), List.drop_set_of_lt (by omega)]
set_option maxRecDepth 100000 in
theorem k_secretT (mb rb z : Nat) (at0 wi : Int) (h0 : -9223372036854775808 <= at0) (h1 : at0 <= 9223372036854775807) (w : World) (hw : Hid (Mz w mb rb z)) : Calls prog 32 #[.pointer (some ⟨mb, 0, none⟩), .int .i64 at0, .int .i64 wi] w fun o w' => TPost w mb rb z o w' := by
 have zl := hw.out.le
 have ml := hw.out.m.lt
 obtain ⟨X, hx, hI, hzz⟩ := hw.out
 have TP : Hid (∀ w', XAt w' mb rb X -> Kept [] w w' -> TPost w mb rb z (.returned (.bool true)) w') := hide1 (fun w' h1 h2 => ⟨rfl, ⟨X, h1, hI, hzz⟩, h2.mono (by simp)⟩)
 have XI := hide1 hI
 have ZZ := hide1 hzz
 have HX := hide1 hx
 clear hw hx hI hzz
 go_enter func32, ntmps32
 go_wp2_with fail
 refine (k_lookV mb rb X XI.out w HX).mono ?_
 rintro o w1 ⟨⟨f, fx, rfl, hf⟩, hk1⟩
 obtain ⟨fb, hfb⟩ := zn1 (w.heap.size)
 rw [<- hfb] at hf |-
 have m1 := hide1 (HX.out.kept hk1)
 have K1 := hide1 hk1
 have F1 := hide1 hf
 have FX := hide1 fx
 have okf := fx.ok XI.out ZZ.out
 clear hf hk1 HX hfb fx
 go_wp2_with fail
 refine (k_paged fb f w1 F1).mono ?_
 rintro o wp ⟨rfl, hwp⟩
 rw [hwp]
 clear hwp wp
 have c13 := F1.out.cell 13 _ rfl
 have fl := F1.out.lt
 have zr := okf.ram
 obtain ⟨s, hs⟩ := zn1 (f.ram)
 rw [<- hs] at c13 zr
 clear hs
 obtain ⟨on, hon⟩ := zn2 ((!(f.mode == 3) && (f.satp / 2147483648 == 1)))
 rw [hon]
 cases on
 . clear hon
   go_wp2_with fail
   go_ret
   exact TP.out _ m1.out K1.out
 have PG := hide1 (pgd_of XI.out FX.out hon)
 clear hon
 by_cases hz : z = 0
 . have hz' : ((s.size : Int) == 0) = true := by rw [zr, hz]; rfl
   go_wp2_with fail
   go_ret
   exact TP.out _ m1.out K1.out
 have hz' : ((s.size : Int) == 0) = false := by rw [zr]; simp; omega
 have PK := hide1 (k_pick at0 h0 h1 z (by omega) (by omega) w1)
 have TO := hide1 (k_tablesOf fb z f zl okf w1 F1)
 clear okf hz
 subst zr
 go_wp2_with fail
 refine PK.out.mono ?_
 rintro o wp ⟨⟨j, hj, rfl⟩, hwp⟩
 rw [hwp]
 clear hwp wp PK
 go_wp2_with fail
 refine TO.out.mono ?_
 rintro o w2 ⟨⟨tb, b0, b1, b2, b3, b4, rfl, ht, hrt⟩, hk⟩
 have m2 := hide1 (m1.out.kept hk)
 have K2 := hide1 (K1.out.trans hk)
 have CL := hide1 (clo_of XI.out FX.out PG.out.2 (by rw [ZZ.out]) hrt)
 clear TO hk m1 K1 F1 c13 fl hz' hrt FX
 have hd := ht.hdr
 have t0 := hd.cell 0 _ rfl
 have t1 := hd.cell 1 _ rfl
 have tl := hd.lt
 have jd : Int.tdiv (j : Int) 4096 = ((j / 4096 : Nat) : Int) := zq141
 obtain ⟨J, hJ⟩ := zn1 (j / 4096 : Nat)
 obtain ⟨n, hn⟩ := zn1 ((s.size + 4095) / 4096 : Nat)
 rw [<- hJ] at jd
 have hJn : J < (s.size + 4095) / 4096 := by omega
 obtain ⟨r0, e0⟩ := ht.s0.cell J hJn
 obtain ⟨r1, e1⟩ := ht.s1.cell J hJn
 have SE : Hid (r0 = false -> r1 = false -> ∀ u : UInt8, stepX (byX j u (urwX X j 1)) = byQ j u (stepX (urwX X j 1))) := hide1 (fun q0 q1 u => by
  have hP : (j + 2147483648) / 4096 = J + 524288 := by omega
  have e0' := e0
  have e1' := e1
  rw [q0] at e0'
  rw [q1] at e1'
  have hX' : xC (urwX X j 1) = xC X /\ (urwX X j 1).b = X.b /\ (urwX X j 1).pc = X.pc := by unfold urwX; split <;> exact ⟨rfl, rfl, rfl⟩
  refine step_by (X := urwX X j 1) (A := PgM w2 b1 ((s.size + 4095) / 4096)) (T := PgM w2 b0 ((s.size + 4095) / 4096)) (W := PgM w2 b2 ((s.size + 4095) / 4096)) (F := LfM w2 b3) ?_ u (by rw [hX'.2.2]; exact XI.out.pc2)
  rw [hX'.1, hX'.2.1]
  refine ⟨CL.out, PG.out.1, fun h => ?_, fun h => ?_⟩
  . have := h J hJn hP
    unfold Tru at this; rw [e1'] at this; simp at this
  . have := h J hJn hP
    unfold Tru at this; rw [e0'] at this; simp at this)
 rw [<- hn] at t0 t1 hJn
 have jw : IntKind.i64.wrap (J : Int) = J := zq115
 have jl : (0 : Int) <= (J : Int) /\ (J : Int) < (n : Int) := by omega
 clear ht hd hn hJ CL PG
 go_upto_region 7 with fail
 go_cut [60] (fun q wx => q = .bool (r1 || r0) /\ wx = w2)
 case first =>
  cases r0 <;> cases r1
  all_goals
   as_aux_lemma =>
    clear SE
    go_wp2_with fail
    exact zq420
 case rest =>
 obtain ⟨rfl, hwx⟩ := hcut
 rw [hwx]
 clear hwx t0 t1 tl e0 e1 jd jw jl hJn
 obtain ⟨bs, hbs⟩ := zn2 ((r1 || r0))
 rw [hbs]
 cases bs
 rotate_left
 . clear SE hbs
   go_wp2_with fail
   go_ret
   exact TP.out _ m2.out K2.out
 have SB := hide1 (SE.out (Bool.or_eq_false_iff.1 hbs).2 (Bool.or_eq_false_iff.1 hbs).1)
 clear hbs
 have hram := XI.out.ok.b.ram
 have zX := ZZ.out
 clear SE
 go_wp2_with fail
 refine (x_Copy mb rb X hram w2 m2).mono ?_
 rintro o w3 ⟨rfl, hy, hk⟩
 obtain ⟨yb, hyb⟩ := zn1 (w2.heap.size)
 rw [<- hyb] at hy |-
 have y0 : w.heap.size <= yb := by rw [hyb]; exact K2.out.size
 have y1 : yb + 2 <= w3.heap.size := hy.rlt
 have m3 := hide1 (m2.out.kept hk)
 have K3 := hide1 (K2.out.trans hk)
 have Y3 := hide1 hy
 clear hk hy hyb m2 K2
 go_wp2_with fail
 refine (x_Copy mb rb X hram w3 m3).mono ?_
 rintro o w4 ⟨rfl, hv, hk⟩
 obtain ⟨vb, hvb⟩ := zn1 (w3.heap.size)
 rw [<- hvb] at hv |-
 have s4 : Hid (Sc w mb rb X X X yb vb w4) := hide1 ⟨m3.out.kept hk, Y3.out.kept hk, hv, y0, by omega, ml, K3.out.trans hk⟩
 clear hk hv hvb m3 K3 Y3 y0 y1
 have cb1 := conv_one (wi % 256) (by omega) (by omega)
 have cb2 := conv_one (wi / 256 % 256) (by omega) (by omega) (w4.alloc (.cells #[.int .u8 (wi % 256)] 5))
 rw [show (w4.alloc (.cells #[.int .u8 (wi % 256)] 5)).heap.size = w4.heap.size + 1 by simp] at cb2
 have LD := hide1 (fun (W : World) (b : Nat) (v : Int) (hW : XAt W b (b + 1) X) => (load_one X j v ▸ (x_Load b (b + 1) X XI.out.ok j (oneB v) (show j + 1 <= X.b.ram.length by rw [zX]; omega) W (hide1 hW)) : Calls prog 23 #[.pointer (some ⟨b, 0, none⟩), .int .i64 j, .string (oneB v)] W fun o w' => o = .returned (.int .i64 0) /\ XAt w' b (b + 1) (byX j (UInt8.ofNat v.toNat) (urwX X j 1)) /\ Kept [b, b + 1] W w'))
 have UI := hide1 (show XInv (urwX X j 1) by unfold urwX; split; exact XI.out.unres; exact XI.out)
 have UL : Hid ((urwX X j 1).b.ram.length = s.size) := hide1 (by rw [<- zX]; unfold urwX; split <;> rfl)
 obtain ⟨U, hU⟩ := zn2 (urwX X j 1)
 rw [hU] at SB LD UI UL
 have SP := hide1 (fun (W : World) (b : Nat) (u : UInt8) (hW : XAt W b (b + 1) (byX j u U)) => ((by
  have h := x_Step b (b + 1) (byX j u U) (UI.out.ram (r := U.b.ram.set j u) List.length_set) W (hide1 hW)
  rw [SB.out u] at h
  exact h) : Calls prog 24 #[.pointer (some ⟨b, 0, none⟩)] W fun o w' => o = .returned (didV (stepX U).1.1 (stepX U).1.2) /\ XAt w' b (b + 1) (byX j u (stepX U).2) /\ Kept [b, b + 1] W w'))
 have VI := hide1 (step_inv UI.out)
 have VL : Hid ((stepX U).2.b.ram.length = s.size) := hide1 (by rw [step_len]; exact UL.out)
 obtain ⟨V, hV⟩ := zn2 ((stepX U).2)
 obtain ⟨k, hk'⟩ : ∃ k, (stepX U).1.1 = k := ⟨_, rfl⟩
 obtain ⟨c, hc'⟩ : ∃ c, (stepX U).1.2 = c := ⟨_, rfl⟩
 rw [hV] at SP VI VL
 rw [hk', hc'] at SP
 have SH := hide1 (fun (W : World) (b : Nat) (u : UInt8) (hW : XAt W b (b + 1) (byX j u V)) => (show_by j u V ▸ x_Show b (b + 1) (byX j u V) (VI.out.ram (r := V.b.ram.set j u) List.length_set).ok W (hide1 hW) : CK 63 #[.pointer (some ⟨b, 0, none⟩)] (.string (showX V)) W))
 obtain ⟨S1, hS1⟩ := zn2 (showX V)
 rw [hS1] at SH
 have RM := hide1 (fun (W : World) (b : Nat) (u : UInt8) (Q : ByteArray) (hQ : pkB (V.b.ram.set j u) 0 V.b.ram.length = Q) (hW : XAt W b (b + 1) (byX j u V)) => k_ramV b (b + 1) (byX j u V) (VI.out.ram (r := V.b.ram.set j u) List.length_set).ok Q (by rw [<- hQ]; show pkB (V.b.ram.set j u) 0 (V.b.ram.set j u).length = _; rw [List.length_set]) W (hide1 hW))
 obtain ⟨Q, hQ⟩ := zn2 (pkB (V.b.ram.set j (UInt8.ofNat (wi % 256).toNat)) 0 V.b.ram.length)
 obtain ⟨R, hR⟩ := zn2 (pkB (V.b.ram.set j (UInt8.ofNat (wi / 256 % 256).toNat)) 0 V.b.ram.length)
 have EQ := eqs_of V.b.ram j (by rw [VL.out]; exact hj) (wi % 256) (wi / 256 % 256)
 rw [hQ, hR] at EQ
 have RQ := hide1 (fun W b hW => RM.out W b _ Q hQ hW)
 have RR := hide1 (fun W b hW => RM.out W b _ R hR hW)
 have L1 := hide1 (fun W b hW => LD.out W b (wi % 256) hW)
 have L2 := hide1 (fun W b hW => LD.out W b (wi / 256 % 256) hW)
 obtain ⟨u1, hu1⟩ := zn2 (UInt8.ofNat (wi % 256).toNat)
 obtain ⟨u2, hu2⟩ := zn2 (UInt8.ofNat (wi / 256 % 256).toNat)
 rw [hu1] at RQ L1
 rw [hu2] at RR L2
 obtain ⟨X1, hX1⟩ := zn2 (oneB (wi % 256))
 obtain ⟨X2, hX2⟩ := zn2 (oneB (wi / 256 % 256))
 rw [hX1] at cb1 L1 EQ
 rw [hX2] at cb2 L2 EQ
 have HE := hide1 EQ
 clear hX1 hX2 hu1 hu2 EQ hQ hR RM LD SB hS1 hV hk' hc' hU UI UL VI VL zX hram
 have s5 := hide1 (s4.out.kept (((Kept.refl [] w4).alloc (.cells #[.int .u8 (wi % 256)] 5)).alloc (.cells #[.int .u8 (wi / 256 % 256)] 5)))
 clear s4
 go_wp2_with fail
 obtain ⟨W5, hW5⟩ := zn1 ((w4.alloc (.cells #[.int .u8 (wi % 256)] 5)).alloc (.cells #[.int .u8 (wi / 256 % 256)] 5))
 rw [<- hW5] at s5 |-
 clear hW5 cb1 cb2
 refine (L1.out _ yb s5.out.y).mono ?_
 rintro o w6 ⟨rfl, hm, hk⟩
 have s6 := hide1 (s5.out.actY hm hk)
 clear hm hk s5 L1
 go_wp2_with fail
 refine (L2.out _ vb s6.out.v).mono ?_
 rintro o w7 ⟨rfl, hm, hk⟩
 have s7 := hide1 (s6.out.actV hm hk)
 clear hm hk s6 L2
 go_wp2_with fail
 refine (SP.out _ yb _ s7.out.y).mono ?_
 rintro o w8 ⟨rfl, hm, hk⟩
 have s8 := hide1 (s7.out.actY hm hk)
 clear hm hk s7
 unfold didV
 have s9 := hide1 (s8.out.kept ((Kept.refl [] w8).alloc (.cells #[.int .i64 k, .int .i64 c] 45)))
 have B9 := hide1 (BoxF.new w8 [.int .i64 k, .int .i64 c] 45)
 obtain ⟨pb, hpb⟩ := zn1 (w8.heap.size)
 have lv : vb < w8.heap.size /\ vb + 1 < w8.heap.size := ⟨s8.out.v.lt, s8.out.v.rlt⟩
 have ly : yb < w8.heap.size /\ yb + 1 < w8.heap.size := ⟨s8.out.y.lt, s8.out.y.rlt⟩
 rw [<- hpb] at B9 lv ly
 clear s8
 go_wp2_with fail
 rw [<- hpb]
 simp only [List.toArray] at B9
 obtain ⟨W9, hW9⟩ := zn1 (w8.alloc (.cells #[.int .i64 k, .int .i64 c] 45))
 rw [<- hW9] at s9 B9 |-
 clear hW9 hpb
 refine (SP.out _ vb _ s9.out.v).mono ?_
 rintro o w10 ⟨rfl, hm, hk⟩
 have s10 := hide1 (s9.out.actV hm hk)
 have B10 := hide1 (B9.out.more hk (by simp; omega))
 clear hm hk s9 B9 lv ly SP
 unfold didV
 obtain ⟨qb, hqb⟩ := zn1 (w10.heap.size)
 have ka := (Kept.refl [] w10).alloc (.cells #[.int .i64 k, .int .i64 c] 45)
 have s11 := hide1 (s10.out.kept ka)
 have B11 := hide1 (B10.out.kept ka)
 have D11 := hide1 (BoxF.new w10 [.int .i64 k, .int .i64 c] 45)
 rw [<- hqb] at D11
 clear ka s10 B10
 go_wp2_with fail
 rw [<- hqb]
 simp only [List.toArray] at D11
 obtain ⟨W11, hW11⟩ := zn1 (w10.alloc (.cells #[.int .i64 k, .int .i64 c] 45))
 rw [<- hW11] at s11 B11 D11 |-
 clear hW11 hqb
 refine (SH.out _ yb _ s11.out.y).mono ?_
 rintro o w12 ⟨rfl, hk⟩
 have s12 := hide1 (s11.out.kept hk)
 have B12 := hide1 (B11.out.kept hk)
 have D12 := hide1 (D11.out.kept hk)
 clear hk s11 B11 D11
 go_wp2_with fail
 refine (SH.out _ vb _ s12.out.v).mono ?_
 rintro o w13 ⟨rfl, hk⟩
 have s13 := hide1 (s12.out.kept hk)
 have B13 := hide1 (B12.out.kept hk)
 have D13 := hide1 (D12.out.kept hk)
 clear hk s12 B12 D12 SH
 have p0 := B13.out.cell 0 _ rfl
 have p1 := B13.out.cell 1 _ rfl
 have q0 := D13.out.cell 0 _ rfl
 have q1 := D13.out.cell 1 _ rfl
 have ne : ∀ W, (binOp .neq 45 (.agg #[.int .i64 k, .int .i64 c]) (.agg #[.int .i64 k, .int .i64 c])).run prog W = .ok (.bool false) W := fun W => by rw [neq_did k c k c W]; simp
 have se : (S1.toList == S1.toList) = true := by simp
 go_upto_region 19 with fail
 go_cut [97] (fun q wx => q = .bool false /\ wx = w13)
 case first =>
  as_aux_lemma =>
   go_wp2_with fail
   all_goals
    go_meet
    case rel => exact zq421
 case rest =>
 obtain ⟨rfl, hwx⟩ := hcut
 rw [hwx]
 clear hwx B13 D13 p0 p1 q0 q1 ne se
 go_wp2_with fail
 refine (RQ.out _ yb s13.out.y).mono ?_
 rintro o wp ⟨rfl, hwp⟩
 rw [hwp]
 clear hwp wp RQ
 go_wp2_with fail
 refine (RR.out _ vb s13.out.v).mono ?_
 rintro o wp ⟨rfl, hwp⟩
 rw [hwp]
 clear hwp wp RR
 go_upto_region 23 with fail
 have jj : (j : Int) + 1 = ((j + 1 : Nat) : Int) := by omega
 have wj : IntKind.i64.wrap ((j : Int) + 1) = ((j + 1 : Nat) : Int) := by rw [wrap_in _ (by omega)]; omega
 have hzz := HE.out.z
 have a1 := slice_lo Q j (by omega)
 have a2 := slice_lo R j (by omega)
 have a3 := slice_mid Q j (j + 1) (by omega) (by omega)
 have a4 := slice_mid R j (j + 1) (by omega) (by omega)
 have a5 := slice_hi Q (j + 1) (by omega)
 have a6 := slice_hi R (j + 1) (by omega)
 have e1 := HE.out.a
 have e2 := HE.out.b
 have e3 := HE.out.c
 have e4 := HE.out.d
 obtain ⟨Z1, z1⟩ := zn2 (Q.extract 0 j)
 obtain ⟨Z2, z2⟩ := zn2 (R.extract 0 j)
 obtain ⟨Z3, z3⟩ := zn2 (Q.extract j (j + 1))
 obtain ⟨Z4, z4⟩ := zn2 (R.extract j (j + 1))
 obtain ⟨Z5, z5⟩ := zn2 (Q.extract (j + 1) Q.size)
 obtain ⟨Z6, z6⟩ := zn2 (R.extract (j + 1) R.size)
 rw [z1] at a1 e1
 rw [z2] at a2 e1
 rw [z3] at a3 e2
 rw [z4] at a4 e3
 rw [z5] at a5 e4
 rw [z6] at a6 e4
 obtain ⟨L, hL⟩ := zn1 (j + 1 : Nat)
 rw [<- hL] at wj a3 a4 a5 a6
 clear z1 z2 z3 z4 z5 z6 hL hzz jj hj HE
 as_aux_lemma =>
  go_quiet (fail)
  all_goals
   go_wp2_with fail
   go_ret
   exact TP.out _ (s13.out.m.kept ((Kept.refl [] _).drewN _)) (s13.out.kp.drewN _)
end
end Go.Proofs.YtmlgonbhoknoiabGreatDoor
