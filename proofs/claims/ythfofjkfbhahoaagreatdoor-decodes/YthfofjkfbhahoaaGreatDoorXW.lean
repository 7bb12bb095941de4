import Derived.Test.YthfofjkfbhahoaaGreatDoorXV
import Derived.Test.YthfofjkfbhahoaaGreatDoorXN
section
namespace Go.Proofs.YthfofjkfbhahoaaGreatDoor
open Go.RowKit
set_option linter.unusedSimpArgs false
set_option maxHeartbeats 4000000 in
theorem u_show (c : Nat) (hc : c = 100 ∨ c = 115 ∨ c = 116 ∨ c = 109 ∨ c = 106 ∨ c = 117 ∨ c = 105) (i : Ins) (hi : Tame i) (w : World) :
    Calls Tryz.prog 119 #[insV i, .int .u8 c] w fun e w' => e = .returned (Byt.strV (Byt.opT c i)) ∧ Below w.heap.size w w' := by
  obtain ⟨rd, hrd⟩ : ∃ n : Nat, i.rd = n := ⟨i.rd.toNat, by have := hi.d0; omega⟩
  obtain ⟨rs1, hrs1⟩ : ∃ n : Nat, i.rs1 = n := ⟨i.rs1.toNat, by have := hi.s0; omega⟩
  obtain ⟨rs2, hrs2⟩ : ∃ n : Nat, i.rs2 = n := ⟨i.rs2.toNat, by have := hi.t0; omega⟩
  have b0 : rd < 32 := by have := hi.d1; omega
  have b1 : rs1 < 32 := by have := hi.s1; omega
  have b2 : rs2 < 32 := by have := hi.t1; omega
  have b3 := hi.i0
  have b4 := hi.i1
  clear hi
  obtain ⟨op, d, s, t, im, ln⟩ := i
  simp only at hrd hrs1 hrs2 b3 b4
  subst hrd hrs1 hrs2
  unfold insV Byt.opT
  simp only [Int.toNat_natCast]
  have HBW : Hid (∀ o, Below w.heap.size w (w.alloc o)) := fun o => (Below.refl _ _).alloc (Nat.le_refl _) _
  have hreg : ∀ n : Nat, n < 32 → ∃ D X : ByteArray, Byt.strV (Byt.regName n) = .string X ∧ Hid (∀ w, Calls Tryz.prog 116 #[.int .i64 n] w fun e w' => e = .returned (.string D) ∧ Below w.heap.size w w') ∧ D = ⟨(Lib.decDigits n).toArray⟩ ∧ (∀ w, (Op.stringOp .add ⟨#[120]⟩ D).run Tryz.prog w = .ok (.string X) w) := by
    intro n hn
    refine ⟨⟨(Lib.decDigits n).toArray⟩, ⟨(Byt.regName n).toArray⟩, rfl, fun w => u_dec n (by omega) w, rfl, fun w => ?_⟩
    exact add_str (a := ⟨#[120]⟩) (b := ⟨(Lib.decDigits n).toArray⟩) (c := ⟨(Byt.regName n).toArray⟩) (mk_app [120] _) (by have := dig_short n (by omega); simp [ByteArray.size]; omega) w
  rcases hc with rfl | rfl | rfl | rfl | rfl | rfl | rfl
  · simp only [if_true]
    obtain ⟨D, X, hX, HD, hDD, had⟩ := hreg rd b0
    rw [hX]
    clear hX hreg hDD
    go_enter Tryz.func119, Tryz.ntmps119
    go_wp2_with (go_at_call 116; refine (HD.out _).mono ?_; rintro e w1 ⟨rfl, hb1⟩)
    go_ret
    exact ⟨rfl, (HBW.out _).trans (hb1.mono (HBW.out _).size)⟩
  · rw [if_neg (by decide), if_pos rfl]
    obtain ⟨D, X, hX, HD, hDD, had⟩ := hreg rs1 b1
    rw [hX]
    clear hX hreg hDD
    go_enter Tryz.func119, Tryz.ntmps119
    go_wp2_with (go_at_call 116; refine (HD.out _).mono ?_; rintro e w1 ⟨rfl, hb1⟩)
    go_ret
    exact ⟨rfl, (HBW.out _).trans (hb1.mono (HBW.out _).size)⟩
  · rw [if_neg (by decide), if_neg (by decide), if_pos rfl]
    obtain ⟨D, X, hX, HD, hDD, had⟩ := hreg rs2 b2
    rw [hX]
    clear hX hreg hDD
    go_enter Tryz.func119, Tryz.ntmps119
    go_wp2_with (go_at_call 116; refine (HD.out _).mono ?_; rintro e w1 ⟨rfl, hb1⟩)
    go_ret
    exact ⟨rfl, (HBW.out _).trans (hb1.mono (HBW.out _).size)⟩
  · rw [if_neg (by decide), if_neg (by decide), if_neg (by decide), if_neg (by decide), if_pos rfl]
    obtain ⟨D, X, hX, HD, hDD, had⟩ := hreg rs1 b1
    obtain ⟨Y, hY⟩ : ∃ Y : ByteArray, Y = ⟨(Lib.itoa im).toArray⟩ := ⟨_, rfl⟩
    obtain ⟨Z1, hZ1⟩ : ∃ Z : ByteArray, Z = ⟨(Lib.itoa im ++ [40, 120]).toArray⟩ := ⟨_, rfl⟩
    obtain ⟨Z2, hZ2⟩ : ∃ Z : ByteArray, Z = ⟨((Lib.itoa im ++ [40, 120]) ++ Lib.decDigits rs1).toArray⟩ := ⟨_, rfl⟩
    obtain ⟨Z3, hZ3⟩ : ∃ Z : ByteArray, Z = ⟨(((Lib.itoa im ++ [40, 120]) ++ Lib.decDigits rs1) ++ [41]).toArray⟩ := ⟨_, rfl⟩
    have l1 := itoa_len im (by omega) (by omega)
    have l2 := dig_short rs1 (by omega)
    have a1 : ∀ w, (Op.stringOp .add Y ⟨#[40, 120]⟩).run Tryz.prog w = .ok (.string Z1) w := fun w => add_str (a := Y) (b := ⟨#[40, 120]⟩) (c := Z1) (by rw [hY, hZ1]; exact mk_app _ [40, 120]) (by rw [hY]; simp [ByteArray.size]; omega) w
    have a2 : ∀ w, (Op.stringOp .add Z1 D).run Tryz.prog w = .ok (.string Z2) w := fun w => add_str (a := Z1) (b := D) (c := Z2) (by rw [hZ1, hDD, hZ2]; exact mk_app _ _) (by rw [hZ1, hDD]; simp [ByteArray.size]; omega) w
    have a3 : ∀ w, (Op.stringOp .add Z2 ⟨#[41]⟩).run Tryz.prog w = .ok (.string Z3) w := fun w => add_str (a := Z2) (b := ⟨#[41]⟩) (c := Z3) (by rw [hZ2, hZ3]; exact mk_app _ [41]) (by rw [hZ2]; simp [ByteArray.size]; omega) w
    have hn := fun w => u_decimal im (by omega) (by omega) w
    rw [show Byt.strV (Lib.itoa im) = .string Y by rw [hY]; rfl] at hn
    rw [show Byt.strV (Lib.itoa im ++ 40 :: (Byt.regName rs1 ++ [41])) = .string Z3 by rw [hZ3]; unfold Byt.strV Byt.regName; simp]
    have HN := hide1 hn
    clear hn hX hY hZ1 hZ2 hZ3 l1 l2 hDD had hreg
    go_enter Tryz.func119, Tryz.ntmps119
    go_wp2_with fail
    refine (HD.out _).mono ?_
    rintro e w1 ⟨rfl, hb1⟩
    have hz := (Ized.start ⟨op, rd, rs1, rs2, im, ln⟩ w 53).more hb1
    have z4 := hz.c4
    have HB1 := hide1 hz.below
    clear hz hb1 HD
    go_wp2_with fail
    refine (HN.out _).mono ?_
    rintro e w2 ⟨rfl, hb2⟩
    go_wp2
    go_ret
    exact ⟨rfl, HB1.out.trans (hb2.mono HB1.out.size)⟩
  · rw [if_neg (by decide), if_neg (by decide), if_neg (by decide), if_neg (by decide), if_neg (by decide)]
    obtain ⟨X, hX⟩ : ∃ X, X = Byt.strV (Lib.itoa im) := ⟨_, rfl⟩
    have hr := fun w => u_decimal im (by omega) (by omega) w
    rw [← hX] at hr ⊢
    have HR := hide1 hr
    clear hr hX hreg
    go_enter Tryz.func119, Tryz.ntmps119
    go_wp2_with (go_at_call 116; refine (HR.out _).mono ?_; rintro e w1 ⟨rfl, hb1⟩)
    go_ret
    exact ⟨rfl, (HBW.out _).trans (hb1.mono (HBW.out _).size)⟩
  · rw [if_neg (by decide), if_neg (by decide), if_neg (by decide), if_pos rfl]
    obtain ⟨X, hX⟩ : ∃ X, X = Byt.strV (Lib.itoa (rs1 : Int)) := ⟨_, rfl⟩
    have hr := fun w => u_decimal (rs1 : Int) (by omega) (by omega) w
    rw [← hX] at hr ⊢
    have HR := hide1 hr
    clear hr hX hreg
    go_enter Tryz.func119, Tryz.ntmps119
    go_wp2_with (go_at_call 116; refine (HR.out _).mono ?_; rintro e w1 ⟨rfl, hb1⟩)
    go_ret
    exact ⟨rfl, (HBW.out _).trans (hb1.mono (HBW.out _).size)⟩
  · rw [if_neg (by decide), if_neg (by decide), if_neg (by decide), if_neg (by decide), if_neg (by decide)]
    obtain ⟨X, hX⟩ : ∃ X, X = Byt.strV (Lib.itoa im) := ⟨_, rfl⟩
    have hr := fun w => u_decimal im (by omega) (by omega) w
    rw [← hX] at hr ⊢
    have HR := hide1 hr
    clear hr hX hreg
    go_enter Tryz.func119, Tryz.ntmps119
    go_wp2_with (go_at_call 116; refine (HR.out _).mono ?_; rintro e w1 ⟨rfl, hb1⟩)
    go_ret
    exact ⟨rfl, (HBW.out _).trans (hb1.mono (HBW.out _).size)⟩
set_option maxHeartbeats 4000000 in
theorem u_Text (x : Int) (w : World) :
    Calls Tryz.prog 73 #[.int .i64 x] w fun e w' => e = .returned (.tuple #[Byt.strV (Byt.textD x).1, .int .i64 (Byt.textD x).2]) ∧ Below w.heap.size w w' := by
  have hx := decode_tame x
  obtain ⟨T, hT⟩ : ∃ T, T = Byt.textD x := ⟨_, rfl⟩
  rw [← hT]
  unfold Byt.textD at hT
  have hdec := r_Decode x w
  rw [← decode_eq] at hdec
  obtain ⟨D, hD⟩ : ∃ D, D = decodeD x := ⟨_, rfl⟩
  rw [← hD] at hdec hT hx
  have HDEC := hide1 hdec
  clear hdec hD
  obtain ⟨i, er⟩ := D
  simp only at hT hx
  unfold insV at HDEC
  by_cases her : er = 0
  · have her' : (er != 0) = false := by simp [her]
    rw [if_pos her] at hT
    obtain ⟨hi, ho0, ho70, hx0, hx1⟩ := hx her
    obtain ⟨o, ho⟩ : ∃ o : Nat, i.op = o := ⟨i.op.toNat, by omega⟩
    have hot : i.op.toNat = o := by omega
    have henc := fun W => r_Encode i (by have := hi.d1; omega) (by have := hi.s1; omega) (by have := hi.t1; omega) W
    rw [← encode_eq] at henc
    have hdm := fun W => u_decimal x (by omega) (by omega) W
    obtain ⟨V, hV⟩ : ∃ V, V = encodeD i := ⟨_, rfl⟩
    rw [← hV] at henc hT
    have HENC := hide1 henc
    unfold insV at HENC
    have HI := hide1 hi
    have HOT := hide1 (And.intro ho hot)
    have ho72 : o ≤ 70 := by omega
    clear henc hV hi ho0 hx her ho hot ho70
    obtain ⟨v, no⟩ := V
    simp only at hT
    obtain ⟨Y, hY⟩ : ∃ Y : ByteArray, Y = ⟨(Lib.itoa x).toArray⟩ := ⟨_, rfl⟩
    rw [show Byt.strV (Lib.itoa x) = .string Y by rw [hY]; rfl] at hdm
    have HDM := hide1 hdm
    have lx := itoa_len x (by omega) (by omega)
    have HY := hide1 hY
    have HT := hide1 hT
    clear hdm hY hT
    go_enter Tryz.func73, Tryz.ntmps73
    go_wp2_with fail
    refine HDEC.out.mono ?_
    rintro e w1 ⟨rfl, hb1⟩
    clear HDEC
    have HZ1 := hide1 (Ized.start i w1 53)
    go_wp2_with fail
    refine (HENC.out _).mono ?_
    rintro e w2 ⟨rfl, hb2⟩
    have hz2 := HZ1.out.more hb2
    have HZ2 := hide1 hz2
    have z0 := hz2.c0
    have z1 := hz2.c1
    have z2 := hz2.c2
    have z3 := hz2.c3
    have z4 := hz2.c4
    have z5 := hz2.c5
    have hb12 := hide1 (hb1.trans (hz2.below.mono hb1.size))
    have hb1' := hide1 hb1
    clear HZ1 hz2 hb1 hb2 HENC
    by_cases hyes : no = 0 ∧ v = x
    · rw [if_pos hyes] at HT
      obtain ⟨hno, hv⟩ := hyes
      have hno' : (no != 0) = false := by simp [hno]
      have hv' : (v != x) = false := by simp [hv]
      clear hno hv HDM lx HY
      unfold Byt.insT at HT
      rw [HOT.out.2] at HT
      obtain ⟨NM, hNM⟩ : ∃ y, y = Nm.name i.op := ⟨_, rfl⟩
      obtain ⟨S, hS⟩ : ∃ S, S = Nm.shape i.op := ⟨_, rfl⟩
      have hSo := shape_ok o (by omega)
      have hSs : Byt.shp o = S.data.toList.map UInt8.toNat := by rw [hS, HOT.out.1]; rfl
      have hSl : S.size ≤ 8 := by rw [hS, HOT.out.1]; exact hSo.1
      have hSc : Hid (∀ k (h : k < S.size), S[k].toNat = 100 ∨ S[k].toNat = 115 ∨ S[k].toNat = 116 ∨ S[k].toNat = 109 ∨ S[k].toNat = 106 ∨ S[k].toNat = 117 ∨ S[k].toNat = 105) := by rw [hS, HOT.out.1]; exact hSo.2
      rw [hSs] at HT
      obtain ⟨SN, hSN⟩ : ∃ y : ByteArray, y = ⟨(99 :: 46 :: Byt.nmL o).toArray⟩ := ⟨_, rfl⟩
      have hsa : ∀ w, (Op.stringOp .add ⟨#[99, 46]⟩ NM).run Tryz.prog w = .ok (.string SN) w := by
        intro w
        rw [hNM, HOT.out.1, hSN]
        exact short_add o (by omega) w
      obtain ⟨X0, hX0⟩ : ∃ X : ByteArray, X = if i.ln = 2 then SN else NM := ⟨_, rfl⟩
      have hnl : (Byt.nmL o).length ≤ 20 := by have := nm_sz o (by omega); unfold Byt.nmL; rw [Array.length_toList]; exact this
      have hX0s : X0.size ≤ 40 := by
        rw [hX0]; split
        · rw [hSN]; simp [ByteArray.size]; omega
        · rw [hNM, HOT.out.1]; have := nm_sz o (by omega); omega
      have hT0 : Hid (T = (X0.data.toList ++ Byt.sepT ((S.data.toList.map UInt8.toNat).drop 0) (decide (0 < 0)) i, 0)) := by
        show T = _
        rw [HT.out, hX0]
        split
        · rw [hSN]; rfl
        · rw [hNM, HOT.out.1]; rfl
      have HNM := hide1 hNM
      have HS := hide1 hS
      clear HT hSo hSs hnl hNM hS hSN HOT ho72
      go_wp2_with fail
      refine (u_Name i.op _).mono ?_
      rintro e w3 ⟨rfl, rfl⟩
      rw [← HNM.out]
      go_upto_if 47 with fail
      go_cut [9] from 47 to 49 (fun v wx => v = .string X0 ∧ wx = w3)
      case first =>
        by_cases h2 : i.ln = 2
        · have h2' : (i.ln == 2) = true := by simp [h2]
          rw [if_pos h2] at hX0
          have HX0 := hide1 hX0
          clear hX0 h2
          go_wp2
          go_meet
          case rel => exact ⟨by rw [HX0.out], rfl⟩
        · have h2' : (i.ln == 2) = false := by simp [h2]
          rw [if_neg h2] at hX0
          have HX0 := hide1 hX0
          clear hX0 h2
          go_wp2
          go_meet
          case rel => exact ⟨by rw [HX0.out], rfl⟩
      case rest =>
        obtain ⟨rfl, rfl⟩ := hcut
        clear hX0 HNM hsa
        go_wp2_with (go_at_call 118; refine (u_Shape i.op _).mono ?_; rintro e w' ⟨rfl, rfl⟩; rw [← HS.out])
        clear z0 z1 z2 z3 z4 z5
        go_loopw [9, 11] (fun v k5 wr => ∃ (K : Nat) (X : ByteArray), K ≤ S.size ∧ X.size ≤ 40 + 60 * K ∧ v = .string X ∧ k5 = .int .i64 K ∧ Hid (Ized i w1 wr) ∧ Hid (T = (X.data.toList ++ Byt.sepT ((S.data.toList.map UInt8.toNat).drop K) (decide (0 < K)) i, 0))) (fun _ k5 _ => S.size - (intOf k5).toNat)
        case atStart => exact ⟨0, X0, by omega, by omega, rfl, rfl, HZ2, hT0⟩
        case round =>
          obtain ⟨K, X, hK, hXs, rfl, rfl, hz, hh⟩ := hrel
          clear hT0 hX0s HZ2
          by_cases hlt : K < S.size
          · rw [drop_sh S K hlt, sep_cons] at hh
            obtain ⟨c, hc⟩ : ∃ c, c = S[K].toNat := ⟨_, rfl⟩
            rw [← hc] at hh
            have hcl := hSc.out K hlt
            rw [← hc] at hcl
            have hci : S[K].toNat = c := hc.symm
            have HCL := hide1 hcl
            clear hc hcl
            obtain ⟨Y, hY⟩ : ∃ Y : ByteArray, Y = ⟨(Byt.opT c i).toArray⟩ := ⟨_, rfl⟩
            have hYs : Y.size ≤ 50 := by rw [hY]; exact opT_len c i HI.out
            have hcall := u_show c HCL.out i HI.out wr.drew
            rw [show Byt.strV (Byt.opT c i) = .string Y by rw [hY]; rfl] at hcall
            have HCALL := hide1 (hcall.mono fun e w1 h => (⟨h.1, hide1 (hz.out.more ((Below.refl _ _).drew.trans h.2))⟩ : _ ∧ Hid (Ized i _ w1)))
            unfold insV at HCALL
            have HYY := hide1 hY
            clear hcall hY
            have z0 := hz.out.c0
            have z1 := hz.out.c1
            have z2 := hz.out.c2
            have z3 := hz.out.c3
            have z4 := hz.out.c4
            have z5 := hz.out.c5
            go_upto_region 17 with fail
            go_cut [12] from 59 to 63 (fun v wx => v = .string Y ∧ Hid (Ized i w1 wx))
            case first =>
              go_region_with (go_at_call 119; with_reducible refine HCALL.out.mono ?_; rintro e w4 ⟨rfl, hz1⟩)
              all_goals (go_wp2_with fail; go_meet)
              all_goals exact ⟨rfl, hz1⟩
            case rest =>
              obtain ⟨rfl, hz1⟩ := hcut
              clear z0 z1 z2 z3 z4 z5 HCALL hz
              by_cases hk : 0 < K
              · have e1 : ((K : Int) == 0) = false := by simp; omega
                have e2 : (K == 0) = false := by simp; omega
                obtain ⟨X1, hX1⟩ : ∃ X1 : ByteArray, X1 = X ++ ⟨#[44, 32]⟩ := ⟨_, rfl⟩
                have hs2 : (⟨#[44, 32]⟩ : ByteArray).size = 2 := rfl
                have hX1s : X1.size = X.size + 2 := by rw [hX1, ByteArray.size_append, hs2]
                have a1 : ∀ w, (Op.stringOp .add X ⟨#[44, 32]⟩).run Tryz.prog w = .ok (.string X1) w := fun w => add_str (a := X) (b := ⟨#[44, 32]⟩) (c := X1) hX1.symm (by rw [hs2]; omega) w
                obtain ⟨X2, hX2⟩ : ∃ X2 : ByteArray, X2 = X1 ++ Y := ⟨_, rfl⟩
                have a3 : ∀ w, (Op.stringOp .add X1 Y).run Tryz.prog w = .ok (.string X2) w := fun w => add_str (a := X1) (b := Y) (c := X2) hX2.symm (by omega) w
                have hX2s : X2.size ≤ 40 + 60 * (K + 1) := by rw [hX2, ByteArray.size_append]; omega
                have hgo : Hid (T = (X2.data.toList ++ Byt.sepT ((S.data.toList.map UInt8.toNat).drop (K + 1)) (decide (0 < K + 1)) i, 0)) := by
                  show T = _
                  rw [hh.out, hX2, app_list', hX1, app_list', HYY.out, decide_eq_true (Nat.succ_pos K), if_pos hk]
                  simp only [List.append_assoc]
                clear hh hX1 hX2 hs2 hk
                go_wp2
                go_roundw
                case rel =>
                  first
                    | exact ⟨K + 1, X2, by omega, hX2s, rfl, by go_num, hz1, hgo⟩
                    | ((repeat apply Exists.intro); exact ⟨⟨K + 1, X2, by omega, hX2s, rfl, by go_num, hz1, hgo⟩, rfl⟩)
                case measure => simp [intOf]; omega
              · obtain rfl : K = 0 := by omega
                obtain ⟨X1, hX1⟩ : ∃ X1 : ByteArray, X1 = X ++ ⟨#[32]⟩ := ⟨_, rfl⟩
                have hs2 : (⟨#[32]⟩ : ByteArray).size = 1 := rfl
                have hX1s : X1.size = X.size + 1 := by rw [hX1, ByteArray.size_append, hs2]
                have a1 : ∀ w, (Op.stringOp .add X ⟨#[32]⟩).run Tryz.prog w = .ok (.string X1) w := fun w => add_str (a := X) (b := ⟨#[32]⟩) (c := X1) hX1.symm (by rw [hs2]; omega) w
                obtain ⟨X2, hX2⟩ : ∃ X2 : ByteArray, X2 = X1 ++ Y := ⟨_, rfl⟩
                have a3 : ∀ w, (Op.stringOp .add X1 Y).run Tryz.prog w = .ok (.string X2) w := fun w => add_str (a := X1) (b := Y) (c := X2) hX2.symm (by omega) w
                have hX2s : X2.size ≤ 40 + 60 * (0 + 1) := by rw [hX2, ByteArray.size_append]; omega
                have hgo : Hid (T = (X2.data.toList ++ Byt.sepT ((S.data.toList.map UInt8.toNat).drop (0 + 1)) (decide (0 < 0 + 1)) i, 0)) := by
                  show T = _
                  rw [hh.out, hX2, app_list', hX1, app_list', HYY.out, decide_eq_true (Nat.succ_pos 0), if_neg hk]
                  simp only [List.append_assoc]
                clear hh hX1 hX2 hs2 hk
                go_wp2
                go_roundw
                case rel =>
                  first
                    | exact ⟨0 + 1, X2, by omega, hX2s, rfl, by go_num, hz1, hgo⟩
                    | ((repeat apply Exists.intro); exact ⟨⟨0 + 1, X2, by omega, hX2s, rfl, by go_num, hz1, hgo⟩, rfl⟩)
                case measure => simp [intOf]; omega
          · have hlt' : decide ((K : Int) < (S.size : Int)) = false := by simp; omega
            have hgo : Hid (T = (X.data.toList, 0)) := by
              show T = _
              rw [hh.out, List.drop_eq_nil_of_le (by rw [List.length_map, Array.length_toList]; show S.size ≤ K; omega)]; simp [Byt.sepT]
            clear hh
            go_wp2
            go_ret2
            exact ⟨by rw [hgo.out]; unfold Byt.strV; simp only [mk_list]; rfl, hb1'.out.trans (hz.out.below.mono hb1'.out.size)⟩
    · rw [if_neg hyes] at HT
      by_cases hno : no = 0
      · have hno' : (no != 0) = false := by simp [hno]
        have hv' : (v != x) = true := by simp; exact fun h => hyes ⟨hno, h⟩
        clear hyes hno
        by_cases h2 : i.ln = 2
        · have h2' : (i.ln == 2) = true := by simp [h2]
          rw [if_pos h2] at HT
          obtain ⟨Z, hZ⟩ : ∃ Z : ByteArray, Z = ⟨#[46, 104, 97, 108, 102, 32]⟩ ++ Y := ⟨_, rfl⟩
          have hs6 : (⟨#[46, 104, 97, 108, 102, 32]⟩ : ByteArray).size = 6 := rfl
          have hYs : Y.size ≤ 21 := by rw [HY.out]; exact lx
          have a1 : ∀ w, (Op.stringOp .add ⟨#[46, 104, 97, 108, 102, 32]⟩ Y).run Tryz.prog w = .ok (.string Z) w := fun w => add_str (a := ⟨#[46, 104, 97, 108, 102, 32]⟩) (b := Y) (c := Z) hZ.symm (by rw [hs6]; omega) w
          have hgo : Hid (T = (Z.data.toList, 0)) := by
            show T = _
            rw [HT.out, hZ, app_list', HY.out]
            have hn : Byt.nmL 72 ++ [32] = [46, 104, 97, 108, 102, 32] := by decide +kernel
            show (Byt.nmL 72 ++ 32 :: Lib.itoa x, (0 : Int)) = ([46, 104, 97, 108, 102, 32] ++ Lib.itoa x, 0)
            rw [← hn, List.append_assoc]; rfl
          clear HT hZ hs6 h2
          go_wp2_with fail
          refine (HDM.out _).mono ?_
          rintro e w3 ⟨rfl, hb3⟩
          have hz3 := HZ2.out.more hb3
          have y5 := hz3.c5
          clear hz3 z0 z1 z2 z3 z4 z5
          go_wp2
          go_ret2
          exact ⟨by rw [hgo.out]; unfold Byt.strV; simp only [mk_list]; rfl, hb12.out.trans (hb3.mono hb12.out.size)⟩
        · have h2' : (i.ln == 2) = false := by simp [h2]
          rw [if_neg h2] at HT
          obtain ⟨Z, hZ⟩ : ∃ Z : ByteArray, Z = ⟨#[46, 119, 111, 114, 100, 32]⟩ ++ Y := ⟨_, rfl⟩
          have hs6 : (⟨#[46, 119, 111, 114, 100, 32]⟩ : ByteArray).size = 6 := rfl
          have hYs : Y.size ≤ 21 := by rw [HY.out]; exact lx
          have a1 : ∀ w, (Op.stringOp .add ⟨#[46, 119, 111, 114, 100, 32]⟩ Y).run Tryz.prog w = .ok (.string Z) w := fun w => add_str (a := ⟨#[46, 119, 111, 114, 100, 32]⟩) (b := Y) (c := Z) hZ.symm (by rw [hs6]; omega) w
          have hgo : Hid (T = (Z.data.toList, 0)) := by
            show T = _
            rw [HT.out, hZ, app_list', HY.out]
            have hn : Byt.nmL 71 ++ [32] = [46, 119, 111, 114, 100, 32] := by decide +kernel
            show (Byt.nmL 71 ++ 32 :: Lib.itoa x, (0 : Int)) = ([46, 119, 111, 114, 100, 32] ++ Lib.itoa x, 0)
            rw [← hn, List.append_assoc]; rfl
          clear HT hZ hs6 h2
          go_wp2_with fail
          refine (HDM.out _).mono ?_
          rintro e w3 ⟨rfl, hb3⟩
          have hz3 := HZ2.out.more hb3
          have y5 := hz3.c5
          clear hz3 z0 z1 z2 z3 z4 z5
          go_wp2
          go_ret2
          exact ⟨by rw [hgo.out]; unfold Byt.strV; simp only [mk_list]; rfl, hb12.out.trans (hb3.mono hb12.out.size)⟩
      · have hno' : (no != 0) = true := by simp [hno]
        clear hyes hno
        by_cases h2 : i.ln = 2
        · have h2' : (i.ln == 2) = true := by simp [h2]
          rw [if_pos h2] at HT
          obtain ⟨Z, hZ⟩ : ∃ Z : ByteArray, Z = ⟨#[46, 104, 97, 108, 102, 32]⟩ ++ Y := ⟨_, rfl⟩
          have hs6 : (⟨#[46, 104, 97, 108, 102, 32]⟩ : ByteArray).size = 6 := rfl
          have hYs : Y.size ≤ 21 := by rw [HY.out]; exact lx
          have a1 : ∀ w, (Op.stringOp .add ⟨#[46, 104, 97, 108, 102, 32]⟩ Y).run Tryz.prog w = .ok (.string Z) w := fun w => add_str (a := ⟨#[46, 104, 97, 108, 102, 32]⟩) (b := Y) (c := Z) hZ.symm (by rw [hs6]; omega) w
          have hgo : Hid (T = (Z.data.toList, 0)) := by
            show T = _
            rw [HT.out, hZ, app_list', HY.out]
            have hn : Byt.nmL 72 ++ [32] = [46, 104, 97, 108, 102, 32] := by decide +kernel
            show (Byt.nmL 72 ++ 32 :: Lib.itoa x, (0 : Int)) = ([46, 104, 97, 108, 102, 32] ++ Lib.itoa x, 0)
            rw [← hn, List.append_assoc]; rfl
          clear HT hZ hs6 h2
          go_wp2_with fail
          refine (HDM.out _).mono ?_
          rintro e w3 ⟨rfl, hb3⟩
          have hz3 := HZ2.out.more hb3
          have y5 := hz3.c5
          clear hz3 z0 z1 z2 z3 z4 z5
          go_wp2
          go_ret2
          exact ⟨by rw [hgo.out]; unfold Byt.strV; simp only [mk_list]; rfl, hb12.out.trans (hb3.mono hb12.out.size)⟩
        · have h2' : (i.ln == 2) = false := by simp [h2]
          rw [if_neg h2] at HT
          obtain ⟨Z, hZ⟩ : ∃ Z : ByteArray, Z = ⟨#[46, 119, 111, 114, 100, 32]⟩ ++ Y := ⟨_, rfl⟩
          have hs6 : (⟨#[46, 119, 111, 114, 100, 32]⟩ : ByteArray).size = 6 := rfl
          have hYs : Y.size ≤ 21 := by rw [HY.out]; exact lx
          have a1 : ∀ w, (Op.stringOp .add ⟨#[46, 119, 111, 114, 100, 32]⟩ Y).run Tryz.prog w = .ok (.string Z) w := fun w => add_str (a := ⟨#[46, 119, 111, 114, 100, 32]⟩) (b := Y) (c := Z) hZ.symm (by rw [hs6]; omega) w
          have hgo : Hid (T = (Z.data.toList, 0)) := by
            show T = _
            rw [HT.out, hZ, app_list', HY.out]
            have hn : Byt.nmL 71 ++ [32] = [46, 119, 111, 114, 100, 32] := by decide +kernel
            show (Byt.nmL 71 ++ 32 :: Lib.itoa x, (0 : Int)) = ([46, 119, 111, 114, 100, 32] ++ Lib.itoa x, 0)
            rw [← hn, List.append_assoc]; rfl
          clear HT hZ hs6 h2
          go_wp2_with fail
          refine (HDM.out _).mono ?_
          rintro e w3 ⟨rfl, hb3⟩
          have hz3 := HZ2.out.more hb3
          have y5 := hz3.c5
          clear hz3 z0 z1 z2 z3 z4 z5
          go_wp2
          go_ret2
          exact ⟨by rw [hgo.out]; unfold Byt.strV; simp only [mk_list]; rfl, hb12.out.trans (hb3.mono hb12.out.size)⟩
  · have her' : (er != 0) = true := by simp [her]
    rw [if_neg her] at hT
    have HT := hide1 hT
    clear hT her
    go_enter Tryz.func73, Tryz.ntmps73
    go_wp2_with fail
    refine HDEC.out.mono ?_
    rintro e w1 ⟨rfl, hb1⟩
    go_wp2
    go_ret2
    exact ⟨by rw [HT.out]; rfl, hb1.alloc hb1.size _⟩
end Go.Proofs.YthfofjkfbhahoaaGreatDoor
end
