import Derived.Test.YtmlgonbhoknoiabGreatDoorXAR
import Derived.Test.YtmlgonbhoknoiabGreatDoorXAU
set_option maxHeartbeats 8000000
set_option linter.all false
namespace Go.Proofs.YtmlgonbhoknoiabGreatDoor
open Go.RowKit Go.Proofs.Tryz
section
attribute [local go_sem ↓] Go.wp_at_zero Go.wp_at_succ
set_option maxRecDepth 100000 in
theorem k_loads (a b : Int) (w : World) : Calls prog 47 #[.int .i64 a, .int .i64 b] w fun o w' => BoolR o /\ Kept [] w w' := by
 go_enter func47, ntmps47
 go_wp2_with fail
 refine (k_built _ _ _ w).mono ?_
 rintro o w1 ⟨rfl | ⟨mb, rb, l1, l2, rfl, hm⟩, hk⟩
 . exact zq389
 have M1 := hide1 hm
 have K1 := hide1 hk
 clear hm hk
 go_wp2_with fail
 refine (m_Run mb rb _ 22 w1 M1.out).mono ?_
 exact zq390
set_option maxRecDepth 100000 in
theorem k_self (k : Int) (w : World) : Calls prog 44 #[.int .i64 k] w fun o w' => BoolR o /\ Kept [] w w' := by
 go_enter func44, ntmps44
 go_wp2_with fail
 refine (k_built _ _ _ w).mono ?_
 rintro o w1 ⟨rfl | ⟨mb, rb, l1, l2, rfl, hm⟩, hk⟩
 . exact zq389
 have M1 := hide1 hm
 have K1 := hide1 hk
 clear hm hk
 go_wp2_with fail
 refine (m_Run mb rb _ 12 w1 M1.out).mono ?_
 exact zq390
theorem and_any (a : Int) (c : Nat) (hc : c < 9223372036854775808) : bits .and .i64 a (c : Int) = (((a % 18446744073709551616).toNat &&& c : Nat) : Int) := by
 have hx : bits .and .i64 a (c : Int) = IntKind.i64.wrap (((BitVec.ofInt 64 a &&& BitVec.ofInt 64 (c : Int)).toNat : Nat) : Int) := rfl
 have h1 : (BitVec.ofInt 64 a).toNat = (a % 18446744073709551616).toNat := by simp [BitVec.toNat_ofInt]
 rw [hx, BitVec.toNat_and, h1, bv_nat c hc]
 exact wrap_nat63 _ (Nat.lt_of_le_of_lt Nat.and_le_right hc)
theorem va_any (a : Int) : ∃ n : Nat, n <= 4294967292 /\ n % 4 = 0 /\ bits .and .i64 a 4294967292 = (n : Int) := by
 refine ⟨(a % 18446744073709551616).toNat &&& 4294967292, Nat.and_le_right, ?_, and_any a 4294967292 (by decide)⟩
 have h := bit_andN (a % 18446744073709551616).toNat 4294967292 0
 have h2 := bit_andN (a % 18446744073709551616).toNat 4294967292 1
 simp at h h2
 omega
theorem v_any (a : Int) : ∃ n : Nat, n <= 4294967295 /\ bits .and .i64 a 4294967295 = (n : Int) :=
 ⟨(a % 18446744073709551616).toNat &&& 4294967295, Nat.and_le_right, and_any a 4294967295 (by decide)⟩
theorem k_regS (mb rb : Nat) (X : XS) (i : Int) (w : World) (hw : XAt w mb rb X) : CS 91 #[.pointer (some ⟨mb, 0, none⟩), .int .i64 i] (.int .i64 (regU X.x i).1) w := by
 have R := hide1 (ux_Reg mb rb X i w hw)
 generalize (regU X.x i).1 = a at R |-
 generalize (regU X.x i).2 = b at R
 go_enter func91, ntmps91
 go_wp2_with fail
 refine R.out.mono ?_
 rintro o w1 ⟨rfl, hw1⟩
 rw [hw1]
 exact zq209
theorem mask_any (a : Int) : bits .and .i64 a 4294967295 = (wordN a : Int) := by
 have := and_any a 4294967295 (by decide)
 rw [show ((4294967295 : Nat) : Int) = 4294967295 from rfl] at this
 rw [this, show (4294967295 : Nat) = 2 ^ 32 - 1 from rfl, Nat.and_two_pow_sub_one_eq_mod]
 unfold wordN; omega
theorem and_low (A : Nat) (hA : A < 4294967296) (k m : Nat) (hk : k <= 32) (hm : m = 2 ^ k - 1) : bits .and .i64 (A : Int) (m : Int) = ((A % 2 ^ k : Nat) : Int) := by
 have : 2 ^ k <= 2 ^ 32 := Nat.pow_le_pow_right (by decide) hk
 rw [b_and A m (by omega) (by omega), hm, Nat.and_two_pow_sub_one_eq_mod]
theorem or_hi (a u k : Nat) (h : a < 2 ^ k) (hu : u * 2 ^ k + a < 9223372036854775808) : bits .or .i64 (a : Int) ((u * 2 ^ k : Nat) : Int) = ((a + u * 2 ^ k : Nat) : Int) := by
 rw [b_or a _ (by omega) (by omega), Nat.or_comm, Nat.mul_comm u, <- Nat.two_pow_add_eq_or_of_lt h, Nat.add_comm]
theorem mask_nat (V : Nat) : bits .and .i64 (V : Int) 4294967295 = ((V % 4294967296 : Nat) : Int) := by
 rw [mask_any]; unfold wordN; omega
theorem k_ldS (mb rb : Nat) {X : XS} {R : List UInt8} {x : List Nat} {p : Nat} {c : XCsr} (hi : XInv X) (hq : Qt X R x p c) (off : Nat) (d : ByteArray) (hz : off + d.size <= 16384) (W : World) (hW : XAt W mb rb X) :
 CX 23 #[.pointer (some ⟨mb, 0, none⟩), .int .i64 (off : Int), .string d] (.int .i64 0) [mb, rb] mb rb (loadX X off d) W := by
 have hl : X.b.ram.length = 16384 := by rw [hq.ram, hq.len]
 have e1 : loadE X.b (off : Int) d = 0 := by unfold loadE; rw [hl, if_neg (by omega), if_neg (by omega)]
 have u1 : loadU X (off : Int) d = loadX X off d := by unfold loadU; rw [if_pos e1, Int.toNat_natCast]
 have L := ux_Load mb rb X hi (off : Int) d W hW
 rw [u1, e1] at L
 exact L
structure MaR (w w' : World) (C : List UInt8) (i1 i0 off r l V A mb rb : Nat) (X : XS) (R : List UInt8) : Prop where
 l1 : w.heap.size <= mb
 l2 : w.heap.size <= rb
 xat : XAt w' mb rb X
 inv : XInv X
 qt : Qt X R (List.replicate 32 0) 0 csr0
 ram : In C R i1 i0 off r l V A
set_option maxRecDepth 100000 in
theorem k_mapperS (C : List UInt8) (hl : C.length <= 128) (s : ByteArray) (hC : Byt.asmD s.data.toList = (C, 0, 0)) (A V : Nat) (hA : A < 4294967296) (hV : V < 4294967296) (root low : Int) (i1 i0 off r l : Nat) (q1 : A / 4194304 = i1) (q0 : A / 4096 % 1024 = i0) (ho : off + 4 <= 4096) (er : wordN root = r) (el : wordN low = l) (w : World) :
 Calls prog 96 #[.string s, .int .i64 (A : Int), .int .i64 (V : Int), .int .i64 root, .int .i64 low] w fun e w' => (∃ mb rb X R, e = .returned (.pointer (some ⟨mb, 0, none⟩)) /\ MaR w w' C i1 i0 off r l V A mb rb X R) /\ Kept [] w w' := by
 have N := hide1 (x_New 16384 (by decide) w)
 have hi0 := new_inv 16384 (by decide)
 have t0 : Qt (newX 16384) (List.replicate 16384 0) (List.replicate 32 0) 0 csr0 := ⟨List.length_replicate, rfl, rfl, rfl, rfl, rfl, rfl, rfl⟩
 have HA := fun W => a_Assemble s W
 rw [hC] at HA
 obtain ⟨d0, hc⟩ := zn1 (⟨C.toArray⟩ : ByteArray)
 have hcs : d0.data.toList = C := by rw [hc]
 have hcz : d0.size = C.length := by rw [hc]; rfl
 have hcv : Byt.strV C = .string d0 := by rw [hc]; rfl
 simp only [hcv] at HA
 replace HA := hide1 HA
 have zs : ∀ v : Int, (leA v 4).size = 4 := fun v => leA_size v 4
 obtain ⟨c1, g1, z1, hc1⟩ := add_in (leA V 4) (leA A 4) (by rw [zs, zs]; decide)
 obtain ⟨c2, g2, z2, hc2⟩ := add_in c1 (leA 2148007937 4) (by rw [z1, zs, zs, zs]; decide)
 obtain ⟨c3, g3, z3, hc3⟩ := add_in c2 (leA 133120 4) (by rw [z2, z1, zs, zs, zs, zs]; decide)
 have zc : c3.size = 16 := by rw [z3, z2, z1, zs, zs, zs, zs]
 have dc : c3.data.toList = ((leA V 4).data.toList ++ (leA A 4).data.toList) ++ (leA 2148007937 4).data.toList ++ (leA 133120 4).data.toList := by
  rw [g3, g2, g1]
  simp only [ByteArray.data_append, Array.toList_append]
 have b1 : i1 < 1024 := by omega
 have b0 : i0 < 1024 := by omega
 obtain ⟨o1, ho1⟩ := zn1 (4096 + i1 * 4)
 obtain ⟨o0, ho0⟩ := zn1 (8192 + i0 * 4)
 have t1 := qt_load t0 0 d0
 have hi1 := load_inv hi0 0 d0
 have t2 := qt_load t1 128 (leA 111 4)
 have hi2 := load_inv hi1 128 (leA 111 4)
 have t3 := qt_load t2 1024 c3
 have hi3 := load_inv hi2 1024 c3
 have t4 := qt_load t3 o1 (leA root 4)
 have hi4 := load_inv hi3 o1 (leA root 4)
 have t5 := qt_load t4 o0 (leA low 4)
 have hi5 := load_inv hi4 o0 (leA low 4)
 have L1 := hide1 (fun W hW => k_ldS (w.heap.size + 1) w.heap.size hi0 t0 0 d0 (by omega) W hW)
 have L2 := hide1 (fun W hW => k_ldS (w.heap.size + 1) w.heap.size hi1 t1 128 (leA 111 4) (by rw [zs]; decide) W hW)
 have L3 := hide1 (fun W hW => k_ldS (w.heap.size + 1) w.heap.size hi2 t2 1024 c3 (by rw [zc]; decide) W hW)
 have L4 := hide1 (fun W hW => k_ldS (w.heap.size + 1) w.heap.size hi3 t3 o1 (leA root 4) (by rw [zs]; omega) W hW)
 have L5 := hide1 (fun W hW => k_ldS (w.heap.size + 1) w.heap.size hi4 t4 o0 (leA low 4) (by rw [zs]; omega) W hW)
 have IN := hide1 (map_in C hl i1 i0 off b1 b0 ho V A root low V A r l (by unfold wordN; omega) (by unfold wordN; omega) er el)
 have T5 : Hid (Qt (loadX (loadX (loadX (loadX (loadX (newX 16384) 0 d0) 128 (leA 111 4)) 1024 c3) o1 (leA root 4)) o0 (leA low 4)) (mapR C i1 i0 V A root low) (List.replicate 32 0) 0 csr0) := hide1 (by
  rw [hcs, dc] at t5
  unfold mapR
  rw [<- ho1, <- ho0]
  exact t5)
 have I5 := hide1 hi5
 have f1 : (A : Int) / 4194304 = (i1 : Int) := by omega
 have f2 : wrap64 (4096 + (i1 : Int) * 4) = (o1 : Int) := zq7
 have f2' : wrap64 ((i1 : Int) * 4) = (i1 : Int) * 4 := zq7
 obtain ⟨a12, ha12⟩ := zn1 (A / 4096 : Nat)
 have f3 : (A : Int) / 4096 = (a12 : Int) := by omega
 have f4 : bits .and .i64 (a12 : Int) 1023 = (i0 : Int) := by
  have := and_low a12 (by omega) 10 1023 (by decide) rfl
  rw [show a12 % 2 ^ 10 = i0 by omega] at this
  exact this
 have f5 : wrap64 (8192 + (i0 : Int) * 4) = (o0 : Int) := zq7
 have f5' : wrap64 ((i0 : Int) * 4) = (i0 : Int) * 4 := zq7
 clear hi0 t0 hC hc hcs hcz hcv zs g1 g2 g3 z1 z2 z3 zc dc b1 b0 ho1 ho0 t1 hi1 t2 hi2 t3 hi3 t4 hi4 t5 hi5 hl hA hV q1 q0 ho er el ha12
 generalize newX 16384 = X0 at *
 generalize loadX X0 0 d0 = X1 at *
 generalize loadX X1 128 (leA 111 4) = X2 at *
 generalize loadX X2 1024 c3 = X3 at *
 generalize loadX X3 o1 (leA root 4) = X4 at *
 generalize loadX X4 o0 (leA low 4) = X5 at *
 go_enter func96, ntmps96
 go_wp2_with fail
 refine N.out.mono ?_
 rintro o w1 ⟨rfl, hm1, hk1⟩
 have M1 := hide1 hm1
 have K1 := hide1 hk1
 clear N hm1 hk1
 go_wp2_with fail
 refine (HA.out _).mono ?_
 rintro o w2 ⟨rfl, hk2⟩
 have M2 := hide1 (M1.out.kept (Below.kept hk2 []))
 have K2 := hide1 (K1.out.trans (Below.kept hk2 []))
 clear hk2 M1 K1 HA
 go_wp2_with fail
 refine (L1.out _ M2.out).mono ?_
 rintro o w3 ⟨rfl, hm3, hk3⟩
 have M3 := hide1 hm3
 have K3 := hide1 (kept_new K2.out hk3 (by omega) (by omega))
 clear L1 hm3 hk3 M2 K2
 go_wp2_with fail
 refine (v_Le4 111 _).mono ?_
 rintro o w4 ⟨rfl, hk4⟩
 have M4 := hide1 (M3.out.kept (Below.kept hk4 []))
 have K4 := hide1 (K3.out.trans (Below.kept hk4 []))
 clear hk4 M3 K3
 go_wp2_with fail
 refine (L2.out _ M4.out).mono ?_
 rintro o w5 ⟨rfl, hm5, hk5⟩
 have M5 := hide1 hm5
 have K5 := hide1 (kept_new K4.out hk5 (by omega) (by omega))
 clear L2 hm5 hk5 M4 K4
 go_wp2_with fail
 refine (v_Le4 V _).mono ?_
 rintro o w6 ⟨rfl, hk4⟩
 have M6 := hide1 (M5.out.kept (Below.kept hk4 []))
 have K6 := hide1 (K5.out.trans (Below.kept hk4 []))
 clear hk4 M5 K5
 go_wp2_with fail
 refine (v_Le4 A _).mono ?_
 rintro o w7 ⟨rfl, hk4⟩
 have M7 := hide1 (M6.out.kept (Below.kept hk4 []))
 have K7 := hide1 (K6.out.trans (Below.kept hk4 []))
 clear hk4 M6 K6
 go_wp2_with fail
 refine (v_Le4 2148007937 _).mono ?_
 rintro o w8 ⟨rfl, hk4⟩
 have M8 := hide1 (M7.out.kept (Below.kept hk4 []))
 have K8 := hide1 (K7.out.trans (Below.kept hk4 []))
 clear hk4 M7 K7
 go_wp2_with fail
 refine (v_Le4 133120 _).mono ?_
 rintro o w9 ⟨rfl, hk4⟩
 have M9 := hide1 (M8.out.kept (Below.kept hk4 []))
 have K9 := hide1 (K8.out.trans (Below.kept hk4 []))
 clear hk4 M8 K8
 go_wp2_with fail
 refine (L3.out _ M9.out).mono ?_
 rintro o w10 ⟨rfl, hm5, hk5⟩
 have M10 := hide1 hm5
 have K10 := hide1 (kept_new K9.out hk5 (by omega) (by omega))
 clear L3 hm5 hk5 M9 K9
 go_wp2_with fail
 refine (v_Le4 root _).mono ?_
 rintro o w11 ⟨rfl, hk4⟩
 have M11 := hide1 (M10.out.kept (Below.kept hk4 []))
 have K11 := hide1 (K10.out.trans (Below.kept hk4 []))
 clear hk4 M10 K10
 go_wp2_with fail
 refine (L4.out _ M11.out).mono ?_
 rintro o w12 ⟨rfl, hm5, hk5⟩
 have M12 := hide1 hm5
 have K12 := hide1 (kept_new K11.out hk5 (by omega) (by omega))
 clear L4 hm5 hk5 M11 K11
 go_wp2_with fail
 refine (v_Le4 low _).mono ?_
 rintro o w13 ⟨rfl, hk4⟩
 have M13 := hide1 (M12.out.kept (Below.kept hk4 []))
 have K13 := hide1 (K12.out.trans (Below.kept hk4 []))
 clear hk4 M12 K12
 go_wp2_with fail
 refine (L5.out _ M13.out).mono ?_
 rintro o w14 ⟨rfl, hm5, hk5⟩
 have M14 := hide1 hm5
 have K14 := hide1 (kept_new K13.out hk5 (by omega) (by omega))
 clear L5 hm5 hk5 M13 K13
 go_wp2_with fail
 go_ret
 exact ⟨⟨_, _, _, _, rfl, ⟨by omega, by omega, M14.out, I5.out, T5.out, IN.out⟩⟩, K14.out⟩
end
end Go.Proofs.YtmlgonbhoknoiabGreatDoor
