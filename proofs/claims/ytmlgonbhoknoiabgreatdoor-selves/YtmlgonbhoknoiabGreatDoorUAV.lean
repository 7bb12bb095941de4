import Derived.Test.YtmlgonbhoknoiabGreatDoorUAR
import Derived.Test.YtmlgonbhoknoiabGreatDoorUAU
set_option maxHeartbeats 8000000
set_option linter.all false
namespace Go.Proofs.YtmlgonbhoknoiabGreatDoor
open Go.RowKit Go.Proofs.Tryz
section
attribute [local go_sem ↓] Go.wp_at_zero Go.wp_at_succ
set_option maxRecDepth 100000 in
theorem k_loads (a b : Int) (w : World) : Calls prog 47 #[.int .i64 a, .int .i64 b] w fun o w' => BoolR o /\ Kept [] w w' := by
 go_enter func47, ntmps47
 go_wp2_with fail
 refine (k_built _ _ _ w).mono ?_
 rintro o w1 ⟨rfl | ⟨mb, rb, l1, l2, rfl, hm⟩, hk⟩
 . exact zq381
 have M1 := hide1 hm
 have K1 := hide1 hk
 clear hm hk
 go_wp2_with fail
 refine (m_Run mb rb _ 22 w1 M1.out).mono ?_
 exact zq382
set_option maxRecDepth 100000 in
theorem k_mapper (s : ByteArray) (va v root low : Int) (w : World) : Calls prog 96 #[.string s, .int .i64 va, .int .i64 v, .int .i64 root, .int .i64 low] w fun e w' => MadeR w w' 16384 e := by
 have N := hide1 (m_New 16384 (by decide) w)
 go_enter func96, ntmps96
 go_wp2_with fail
 refine N.out.mono ?_
 rintro o w1 ⟨rfl, hm1, hk1⟩
 have M1 := hide1 hm1
 have K1 := hide1 hk1
 clear N hm1 hk1
 go_wp2_with fail
 refine (a_Asm' s _).mono ?_
 rintro o w2 ⟨⟨X, er, n, rfl⟩, hk2⟩
 have M2 := hide1 (M1.out.kept hk2)
 have K2 := hide1 (K1.out.trans hk2)
 clear hk2 M1 K1
 by_cases her : er = 0
 . have q : (er != 0) = false := by simp [her]
   have q' : (er == 0) = true := by simp [her]
   clear her
   go_wp2_with fail
   refine (m_Load _ _ _ _ _ w2 M2.out).mono ?_
   rintro o w3 ⟨⟨e2, rfl⟩, hm, hk⟩
   have M3 := hide1 hm
   have K3 := hide1 (kept_new K2.out hk (by omega) (by omega))
   clear hm hk M2 K2
   go_wp2_with fail
   refine (u_Le4' _ _).mono ?_
   rintro o w4 ⟨⟨A0, hA0, rfl⟩, hk⟩
   have M4 := hide1 (M3.out.kept hk)
   have K4 := hide1 (K3.out.trans hk)
   clear hk M3 K3
   go_wp2_with fail
   refine (m_Load _ _ _ _ _ w4 M4.out).mono ?_
   rintro o w5 ⟨⟨e4, rfl⟩, hm, hk⟩
   have M5 := hide1 hm
   have K5 := hide1 (kept_new K4.out hk (by omega) (by omega))
   clear hm hk M4 K4
   go_wp2_with fail
   refine (u_Le4' _ _).mono ?_
   rintro o w6 ⟨⟨A, hA, rfl⟩, hk⟩
   have M6 := hide1 (M5.out.kept hk)
   have K6 := hide1 (K5.out.trans hk)
   clear hk M5 K5
   go_wp2_with fail
   refine (u_Le4' _ _).mono ?_
   rintro o w7 ⟨⟨B, hB, rfl⟩, hk⟩
   have M7 := hide1 (M6.out.kept hk)
   have K7 := hide1 (K6.out.trans hk)
   clear hk M6 K6
   go_wp2_with fail
   refine (u_Le4' _ _).mono ?_
   rintro o w8 ⟨⟨C, hC, rfl⟩, hk⟩
   have M8 := hide1 (M7.out.kept hk)
   have K8 := hide1 (K7.out.trans hk)
   clear hk M7 K7
   go_wp2_with fail
   refine (u_Le4' _ _).mono ?_
   rintro o w9 ⟨⟨D, hD, rfl⟩, hk⟩
   have M9 := hide1 (M8.out.kept hk)
   have K9 := hide1 (K8.out.trans hk)
   clear hk M8 K8
   obtain ⟨c1, g1, z1, hc1⟩ := add_in A B (by omega)
   obtain ⟨c2, g2, z2, hc2⟩ := add_in c1 C (by omega)
   obtain ⟨c3, g3, z3, hc3⟩ := add_in c2 D (by omega)
   clear g1 g2 g3 z1 z2 z3 hA hB hC hD hA0
   go_wp2_with fail
   refine (m_Load _ _ _ _ _ w9 M9.out).mono ?_
   rintro o w10 ⟨⟨e9, rfl⟩, hm, hk⟩
   have M10 := hide1 hm
   have K10 := hide1 (kept_new K9.out hk (by omega) (by omega))
   clear hm hk M9 K9
   go_wp2_with fail
   refine (u_Le4' _ _).mono ?_
   rintro o w11 ⟨⟨F, hF, rfl⟩, hk⟩
   have M11 := hide1 (M10.out.kept hk)
   have K11 := hide1 (K10.out.trans hk)
   clear hk M10 K10
   go_wp2_with fail
   refine (m_Load _ _ _ _ _ w11 M11.out).mono ?_
   rintro o w12 ⟨⟨e11, rfl⟩, hm, hk⟩
   have M12 := hide1 hm
   have K12 := hide1 (kept_new K11.out hk (by omega) (by omega))
   clear hm hk M11 K11
   go_wp2_with fail
   refine (u_Le4' _ _).mono ?_
   rintro o w13 ⟨⟨G, hG, rfl⟩, hk⟩
   have M13 := hide1 (M12.out.kept hk)
   have K13 := hide1 (K12.out.trans hk)
   clear hk M12 K12
   go_wp2_with fail
   refine (m_Load _ _ _ _ _ w13 M13.out).mono ?_
   rintro o w14 ⟨⟨e13, rfl⟩, hm, hk⟩
   have M14 := hide1 hm
   have K14 := hide1 (kept_new K13.out hk (by omega) (by omega))
   clear hm hk M13 K13
   go_wp2_with fail
   go_ret
   exact ⟨.inr ⟨_, _, by omega, by omega, rfl, M14.out⟩, K14.out⟩
 . exact zq361
theorem and_any (a : Int) (c : Nat) (hc : c < 9223372036854775808) : bits .and .i64 a (c : Int) = (((a % 18446744073709551616).toNat &&& c : Nat) : Int) := by
 have hx : bits .and .i64 a (c : Int) = IntKind.i64.wrap (((BitVec.ofInt 64 a &&& BitVec.ofInt 64 (c : Int)).toNat : Nat) : Int) := rfl
 have h1 : (BitVec.ofInt 64 a).toNat = (a % 18446744073709551616).toNat := by simp [BitVec.toNat_ofInt]
 rw [hx, BitVec.toNat_and, h1, bv_nat c hc]
 exact wrap_nat63 _ (Nat.lt_of_le_of_lt Nat.and_le_right hc)
theorem va_any (a : Int) : ∃ n : Nat, n <= 4294967292 /\ n % 4 = 0 /\ bits .and .i64 a 4294967292 = (n : Int) := by
 refine ⟨(a % 18446744073709551616).toNat &&& 4294967292, Nat.and_le_right, ?_, and_any a 4294967292 (by decide)⟩
 have h := bit_andN (a % 18446744073709551616).toNat 4294967292 0
 have h2 := bit_andN (a % 18446744073709551616).toNat 4294967292 1
 simp at h h2
 omega
theorem v_any (a : Int) : ∃ n : Nat, n <= 4294967295 /\ bits .and .i64 a 4294967295 = (n : Int) :=
 ⟨(a % 18446744073709551616).toNat &&& 4294967295, Nat.and_le_right, and_any a 4294967295 (by decide)⟩
theorem va_big (n : Nat) (h : n <= 4294967292) (h4 : n % 4 = 0) : ∃ m : Nat, m <= 4294967292 /\ m % 4 = 0 /\ bits .or .i64 (bits .or .i64 (bits .andNot .i64 (n : Int) 4194303) 12288) (bits .and .i64 (n : Int) 4095) = (m : Int) := by
 have e1 : bits .andNot .i64 (n : Int) 4194303 = ((wout n 4194303 : Nat) : Int) := b_andn n 4194303 (by omega) (by decide)
 have hw := wout_le n 4194303
 have e2 : bits .or .i64 ((wout n 4194303 : Nat) : Int) 12288 = ((wout n 4194303 ||| 12288 : Nat) : Int) := b_or _ 12288 (by omega) (by decide)
 have e3 : bits .and .i64 (n : Int) 4095 = ((n &&& 4095 : Nat) : Int) := b_and n 4095 (by omega) (by decide)
 have l2 : wout n 4194303 ||| 12288 < 4294967296 := nat_or_lt _ _ 32 (by omega) (by decide)
 have l3 : n &&& 4095 <= 4095 := Nat.and_le_right
 have e4 := b_or (wout n 4194303 ||| 12288) (n &&& 4095) (by omega) (by omega)
 have l4 : (wout n 4194303 ||| 12288) ||| (n &&& 4095) < 4294967296 := nat_or_lt _ _ 32 l2 (by omega)
 have m4 : ((wout n 4194303 ||| 12288) ||| (n &&& 4095)) % 4 = 0 := by
  have b0 := bit_orN (wout n 4194303 ||| 12288) (n &&& 4095) 0
  have b1 := bit_orN (wout n 4194303 ||| 12288) (n &&& 4095) 1
  have c0 := bit_andN n 4095 0
  have c1 := bit_andN n 4095 1
  have d0 := bit_orN (wout n 4194303) 12288 0
  have d1 := bit_orN (wout n 4194303) 12288 1
  have f0 := bit_woutN n 4194303 0
  have f1 := bit_woutN n 4194303 1
  simp at b0 b1 c0 c1 d0 d1 f0 f1
  have g0 : n % 2 = 0 := by omega
  have g1 : n / 2 % 2 = 0 := by omega
  rw [g1] at c1
  simp [g0, d0, f0] at b0
  simp [c1, d1, f1] at b1
  omega
 exact ⟨_, by omega, m4, by rw [e1, e2, e3, e4]⟩
theorem k_regS (mb rb : Nat) (X : XS) (i : Int) (w : World) (hw : XAt w mb rb X) : CS 91 #[.pointer (some ⟨mb, 0, none⟩), .int .i64 i] (.int .i64 (regU X.x i).1) w := by
 have R := hide1 (ux_Reg mb rb X i w hw)
 generalize (regU X.x i).1 = a at R |-
 generalize (regU X.x i).2 = b at R
 go_enter func91, ntmps91
 go_wp2_with fail
 refine R.out.mono ?_
 rintro o w1 ⟨rfl, hw1⟩
 rw [hw1]
 exact zq204
theorem st_len (R : List UInt8) (q n v : Nat) : (stN R q n v).length = R.length := stN_length n R q v
theorem st_cod (R : List UInt8) (q v p : Nat) (hq : q + 4 <= R.length) (hp : p + 4 <= R.length) (h : p + 4 <= q \/ q + 4 <= p) : cod (stN R q 4 v) p = cod R p :=
 cod_eq p (by rw [st_len]; exact hp) hp fun j h1 h2 => by rw [stN_getD _ _ _ _ _ hq, if_neg (by omega)]
theorem st_codq (R : List UInt8) (q v : Nat) (hq : q + 4 <= R.length) (hv : v < 4294967296) : cod (stN R q 4 v) q = (v % 65536 % 4, decodeD (v : Int)) := by
 unfold cod
 rw [rd2_eq _ _ (by rw [st_len]; omega), rd2_eq _ _ (by rw [st_len]; omega)]
 simp only [stN_getD _ _ _ _ _ hq]
 rw [if_pos (by omega), if_pos (by omega), if_pos (by omega), if_pos (by omega), Nat.sub_self, show q + 1 - q = 1 by omega, show q + 2 - q = 2 by omega, show q + 2 + 1 - q = 3 by omega]
 simp only [UInt8.toNat_ofNat', Nat.pow_zero, Nat.div_one, Nat.reducePow]
 rw [show v % 256 + 256 * (v / 256 % 256) = v % 65536 by omega, show v % 65536 + (v / 65536 % 256 + 256 * (v / 16777216 % 256)) * 65536 = v by omega]
def selC : List UInt8 := [151, 15, 0, 0, 131, 160, 15, 64, 147, 130, 18, 0, 35, 164, 31, 0, 19, 3, 19, 0, 147, 35, 35, 0, 227, 152, 3, 254]
def selR (v1 v5 v6 v7 v31 : Nat) : List Nat := [0, v1, 0, 0, 0, v5, v6, v7, 0, 0, 0, 0, 0, 0, 0, 0, 0, 0, 0, 0, 0, 0, 0, 0, 0, 0, 0, 0, 0, 0, 0, v31]
set_option maxRecDepth 100000 in
theorem sel_run (k : Nat) (hk : k < 1024) (X : XS) (h0 : Qu X (bltX selC (164499 + k * 1048576 : Nat) 0) (List.replicate 32 0) 0) : (runG 12 0 X).1 = 12 /\ (runG 12 0 X).2.x.getD 5 0 = 1 + k := by
 obtain ⟨W, hW⟩ := zn1 (164499 + k * 1048576 : Nat)
 have hd := sel_dec k hk
 rw [<- hW] at hd h0
 have hb := blt_a selC W 0
 rw [show wordN (W : Int) = W by unfold wordN; omega] at hb
 have hc : ∀ q, q + 4 <= 1024 -> cod (bltX selC W 0) q = cod (bltR selC) q := fun q h => blt_cod _ _ _ _ h
 have hlen := blt_len selC W 0
 generalize bltX selC W 0 = R at *
 have k0 : cod R 0 = (3, (⟨2, 31, 0, 0, 0, 4⟩, 0)) := (hc 0 (by decide)).trans (by kernel_rfl)
 have k4 : cod R 4 = (3, (⟨13, 1, 31, 0, 1024, 4⟩, 0)) := (hc 4 (by decide)).trans (by kernel_rfl)
 have k8 : cod R 8 = (3, (⟨19, 5, 5, 0, 1, 4⟩, 0)) := (hc 8 (by decide)).trans (by kernel_rfl)
 have k12 : cod R 12 = (3, (⟨18, 0, 31, 1, 8, 4⟩, 0)) := (hc 12 (by decide)).trans (by kernel_rfl)
 have k16 : cod R 16 = (3, (⟨19, 6, 6, 0, 1, 4⟩, 0)) := (hc 16 (by decide)).trans (by kernel_rfl)
 have k20 : cod R 20 = (3, (⟨20, 7, 6, 0, 2, 4⟩, 0)) := (hc 20 (by decide)).trans (by kernel_rfl)
 have k24 : cod R 24 = (3, (⟨6, 0, 7, 0, -16, 4⟩, 0)) := (hc 24 (by decide)).trans (by kernel_rfl)
 clear hc
 obtain ⟨X1, h1, e1⟩ := (h0.alu (by omega) (by omega) _ k0 rfl (by decide) rfl).cast (x' := selR 0 0 0 0 2147483648) (by kernel_rfl)
 obtain ⟨X2, h2, e2⟩ := (h1.load (by omega) (by omega) _ k4 (by decide) rfl 1024 (by kernel_rfl) (by rw [hlen]; decide) (by decide)).cast (x' := selR W 0 0 0 2147483648) (by show setL _ 1 (ldvD 13 (ldN ((R.drop 1024).take 4))) = _; rw [hb]; kernel_rfl)
 obtain ⟨X3, h3, e3⟩ := (h2.alu (by omega) (by omega) _ k8 rfl (by decide) rfl).cast (x' := selR W 1 0 0 2147483648) (by kernel_rfl)
 obtain ⟨X4, h4, e4⟩ := h3.store (by omega) (by omega) _ k12 (by decide) rfl 8 (by kernel_rfl) (by rw [hlen]; decide) (by decide)
 replace h4 : Qu X4 (stN R 8 4 W) (selR W 1 0 0 2147483648) 16 := h4
 have g : ∀ q, q + 4 <= 4096 -> q + 4 <= 8 \/ 12 <= q -> cod (stN R 8 4 W) q = cod R q := fun q h h' => st_cod R 8 W q (by omega) (by omega) (by omega)
 have g8 := st_codq R 8 W (by omega) (by omega)
 have hlen2 : (stN R 8 4 W).length = 4096 := (st_len _ _ _ _).trans hlen
 generalize stN R 8 4 W = R' at *
 obtain ⟨X5, h5, e5⟩ := (h4.alu (by omega) (by omega) _ ((g 16 (by decide) (by decide)).trans k16) rfl (by decide) rfl).cast (x' := selR W 1 1 0 2147483648) (by kernel_rfl)
 obtain ⟨X6, h6, e6⟩ := (h5.alu (by omega) (by omega) _ ((g 20 (by decide) (by decide)).trans k20) rfl (by decide) rfl).cast (x' := selR W 1 1 1 2147483648) (by kernel_rfl)
 obtain ⟨X7, h7, e7⟩ := h6.branch (by omega) (by omega) _ ((g 24 (by decide) (by decide)).trans k24) (by decide) rfl 8 (fun _ => by kernel_rfl) (fun h => by cases h)
 obtain ⟨X8, h8, e8⟩ := (h7.alu (by omega) (by omega) ⟨19, 5, 5, 0, k, 4⟩ (by rw [g8, hd, show W % 65536 % 4 = 3 by omega]) rfl (show ¬ ((19 : Int) = 3 \/ (19 : Int) = 4) by decide) rfl).cast (x' := selR W (1 + k) 1 1 2147483648) (by
  have e : rsvL 8 (niOf ⟨19, 5, 5, 0, k, 4⟩) (selR W 1 1 1 2147483648) = 1 + k := by show (1 + wordN (k : Int)) % 4294967296 = 1 + k; unfold wordN; omega
  rw [e]; rfl)
 obtain ⟨X9, h9, e9⟩ := h8.store (by omega) (by omega) _ ((g 12 (by decide) (by decide)).trans k12) (by decide) rfl 8 (by kernel_rfl) (by rw [hlen2]; decide) (by decide)
 replace h9 : Qu X9 (stN R' 8 4 W) (selR W (1 + k) 1 1 2147483648) 16 := h9
 have g' : ∀ q, q + 4 <= 4096 -> q + 4 <= 8 \/ 12 <= q -> cod (stN R' 8 4 W) q = cod R q := fun q h h' => (st_cod R' 8 W q (by omega) (by omega) (by omega)).trans (g q h h')
 have hlen3 : (stN R' 8 4 W).length = 4096 := (st_len _ _ _ _).trans hlen2
 generalize stN R' 8 4 W = R3 at *
 obtain ⟨X10, h10, e10⟩ := (h9.alu (by omega) (by omega) _ ((g' 16 (by decide) (by decide)).trans k16) rfl (by decide) rfl).cast (x' := selR W (1 + k) 2 1 2147483648) (by kernel_rfl)
 obtain ⟨X11, h11, e11⟩ := (h10.alu (by omega) (by omega) _ ((g' 20 (by decide) (by decide)).trans k20) rfl (by decide) rfl).cast (x' := selR W (1 + k) 2 0 2147483648) (by kernel_rfl)
 obtain ⟨X12, h12, e12⟩ := h11.branch (by omega) (by omega) _ ((g' 24 (by decide) (by decide)).trans k24) (by decide) rfl 28 (fun h => by cases h) (fun _ => rfl)
 have e : runG 12 0 X = (12, X12) := by rw [e1, e2, e3, e4, e5, e6, e7, e8, e9, e10, e11, e12]; rfl
 rw [e]
 exact ⟨rfl, by show X12.x.getD 5 0 = _; rw [h12.x]; rfl⟩
set_option maxRecDepth 100000 in
theorem k_selfS (k : Int) (w : World) : CK 44 #[.int .i64 k] (.bool true) w := by
 obtain ⟨j, hj, hk⟩ : ∃ j : Nat, j < 1024 /\ bits .and .i64 k 1023 = j := ⟨(k % 18446744073709551616).toNat &&& 1023, Nat.lt_of_le_of_lt Nat.and_le_right (by decide), and_any k 1023 (by decide)⟩
 have wr : wrap64 (164499 + wrap64 ((j : Int) * 1048576)) = ((164499 + j * 1048576 : Nat) : Int) := by unfold wrap64; omega
 go_enter func44, ntmps44
 go_wp2_with fail
 refine (k_builtS selC (by decide) _ (by kernel_rfl) ((164499 + j * 1048576 : Nat) : Int) 0 w).mono ?_
 rintro o w1 ⟨⟨mb, rb, X, rfl, hm⟩, hkp⟩
 obtain ⟨r1, r2⟩ := sel_run j hj X hm.qu
 have RN := hide1 (x_Run mb rb X hm.inv 12 (by decide) w1 (hide1 hm.xat))
 have iv := run_inv 12 0 X hm.inv
 simp only [r1] at RN
 have l1 := hm.l1
 have l2 := hm.l2
 generalize (runG 12 0 X).2 = Y at RN r2 iv
 have K1 := hide1 hkp
 clear hm hkp r1
 have RG := hide1 (fun W (hW : XAt W mb rb Y) => k_regS mb rb Y 5 W hW)
 rw [show (regU Y.x 5).1 = ((1 + j : Nat) : Int) by unfold regU; rw [if_pos (by decide)]; show ((Y.x.getD 5 0 : Nat) : Int) = _; rw [r2]] at RG
 clear r2 iv
 go_wp2_with fail
 refine RN.out.mono ?_
 rintro o w2 ⟨rfl, hx, hkq⟩
 have K2 := hide1 (kept_new K1.out hkq l1 l2)
 have M2 := hide1 hx
 clear hx hkq K1 RN
 go_wp2_with fail
 refine (RG.out _ M2.out).mono ?_
 rintro o w3 ⟨rfl, hw3⟩
 rw [hw3]
 clear hw3 RG
 have q : (((1 + j : Nat) : Int) == 1 + (j : Int)) = true := by simp
 have q1 : wrap64 (1 + (j : Int)) = 1 + (j : Int) := by unfold wrap64; omega
 go_wp2_with fail
 go_ret
 exact ⟨by simp, K2.out⟩
end
end Go.Proofs.YtmlgonbhoknoiabGreatDoor
