import Derived.Test.YtmlgonbhoknoiabGreatDoorXAX
import Derived.Test.YtmlgonbhoknoiabGreatDoorXAY
set_option maxHeartbeats 8000000
set_option linter.all false
namespace Go.Proofs.YtmlgonbhoknoiabGreatDoor
open Go.RowKit Go.Proofs.Tryz
section
attribute [local go_sem ↓] Go.wp_at_zero Go.wp_at_succ
theorem va_bigE (n : Nat) (h : n <= 4294967292) : bits .or .i64 (bits .or .i64 (bits .andNot .i64 (n : Int) 4194303) 12288) (bits .and .i64 (n : Int) 4095) = ((n / 4194304 * 4194304 + 12288 + n % 4096 : Nat) : Int) := by
 have e1 : bits .andNot .i64 (n : Int) 4194303 = ((n / 4194304 * 4194304 : Nat) : Int) := by
  have := b_andn n 4194303 (by omega) (by decide)
  unfold wout at this
  rw [show n &&& 4194303 = n % 4194304 from Nat.and_two_pow_sub_one_eq_mod n 22, show n - n % 4194304 = n / 4194304 * 4194304 by omega] at this
  exact this
 have e2 : bits .and .i64 (n : Int) 4095 = ((n % 4096 : Nat) : Int) := pl_low n (by omega)
 have e3 : bits .or .i64 ((n / 4194304 * 4194304 : Nat) : Int) 12288 = ((n / 4194304 * 4194304 + 12288 : Nat) : Int) := by
  have := b_or (n / 4194304 * 4194304) 12288 (by omega) (by decide)
  rw [show n / 4194304 * 4194304 ||| 12288 = n / 4194304 * 4194304 + 12288 by
   rw [Nat.mul_comm]; exact (Nat.two_pow_add_eq_or_of_lt (i := 22) (by decide : 12288 < 2 ^ 22) (n / 4194304)).symm] at this
  exact this
 rw [e1, e2, e3]
 have := b_or (n / 4194304 * 4194304 + 12288) (n % 4096) (by omega) (by omega)
 rw [show n / 4194304 * 4194304 + 12288 ||| n % 4096 = n / 4194304 * 4194304 + 12288 + n % 4096 by
  rw [show n / 4194304 * 4194304 + 12288 = 2 ^ 12 * (n / 4194304 * 1024 + 3) by omega]
  exact (Nat.two_pow_add_eq_or_of_lt (i := 12) (by omega) (n / 4194304 * 1024 + 3)).symm] at this
 exact this
set_option maxRecDepth 100000 in
theorem k_maps_0 (a b c : Int) (w : World) (PK : Hid (∀ W : World, CS 28 #[.int .i64 c, .int .i64 6] (.int .i64 0) W)) : CK 45 #[.int .i64 a, .int .i64 b, .int .i64 c] (.bool true) w := by
 obtain ⟨n, n1, n4, en⟩ := va_any a
 obtain ⟨u, u1, eu⟩ := v_any b
 obtain ⟨off, hoff⟩ := zn1 (n % 4096)
 have lo : bits .and .i64 (n : Int) 4095 = (off : Int) := zq142
 have qo : n % 4096 = off := hoff.symm
 have hA : n < 4294967296 := by omega
 obtain ⟨i1, q1⟩ := zn2 (n / 4194304)
 obtain ⟨i0, q0⟩ := zn2 (n / 4096 % 1024)
 have ho : off + 4 <= 4096 := by omega
 have MP := hide1 (fun s (hC : Byt.asmD s.data.toList = (mapC, 0, 0)) W => k_mapperS mapC (by decide) s hC n u hA (by omega) 536872961 536873991 i1 i0 off 536872961 536873991 q1 q0 ho rfl rfl W)
 have RD := hide1 (fun X R (h0 : Qt X R (List.replicate 32 0) 0 csr0) (hi : In0 mapC R i1 i0 off 536872961 536873991 u n) => map_0 h0 hi (by omega) hA q1 q0 qo)
 obtain ⟨o1, ho1⟩ := zn1 (4096 + i1 * 4)
 obtain ⟨o0, ho0⟩ := zn1 (8192 + i0 * 4)
 obtain ⟨o3, ho3⟩ := zn1 (12288 + off)
 have b1 : i1 < 1024 := by omega
 have b0 : i0 < 1024 := by omega
 have f1 : (n : Int) / 4194304 = (i1 : Int) := by omega
 have f2 : wrap64 (4096 + (i1 : Int) * 4) = (o1 : Int) := zq7
 have f2' : wrap64 ((i1 : Int) * 4) = (i1 : Int) * 4 := zq7
 obtain ⟨a12, ha12⟩ := zn1 (n / 4096 : Nat)
 have f3 : (n : Int) / 4096 = (a12 : Int) := by omega
 have f4 : bits .and .i64 (a12 : Int) 1023 = (i0 : Int) := by
  have := and_low a12 (by omega) 10 1023 (by decide) rfl
  rw [show a12 % 2 ^ 10 = i0 by omega] at this
  exact this
 have f5 : wrap64 (8192 + (i0 : Int) * 4) = (o0 : Int) := zq7
 have f5' : wrap64 ((i0 : Int) * 4) = (i0 : Int) * 4 := zq7
 have f6 : wrap64 (12288 + (off : Int)) = (o3 : Int) := zq7
 have HO := hide1 (And.intro ho1 (And.intro ho0 (And.intro ho3 (And.intro b1 (And.intro b0 ho)))))
 clear ho1 ho0 ho3 b1 b0 ho n1 n4 u1 q1 q0 qo hA ha12 hoff
 go_enter func45, ntmps45
 go_wp2_with fail
 refine (PK.out _).mono ?_
 rintro o w1 ⟨rfl, hw1⟩
 rw [hw1]
 clear hw1 w1
 go_wp2_with fail
 refine (MP.out _ (by kernel_rfl) _).mono ?_
 rintro o w2 ⟨⟨mb, rb, X, R, rfl, hm2⟩, hk2⟩
 obtain ⟨Y, r1, vw, mc, fx⟩ := RD.out X R hm2.qt hm2.ram.i
 have RN := hide1 (x_Run mb rb X hm2.inv 20 (by decide) w2 (hide1 hm2.xat))
 have i3 := run_inv 20 0 X hm2.inv
 rw [r1] at RN i3
 generalize (runG 20 0 X).1 = r20 at RN
 have l1 := hm2.l1
 have l2 := hm2.l2
 have K2 := hide1 hk2
 have yl := vw.len
 have A1 := hide1 (fun W hW => k_wordAtS mb rb Y i3 o1 zq537 536872961 zq538 W hW)
 have A0 := hide1 (fun W hW => k_wordAtS mb rb Y i3 o0 zq537 536874183 zq539 W hW)
 exact zq392
set_option maxRecDepth 100000 in
theorem k_maps_1 (a b c : Int) (w : World) (PK : Hid (∀ W : World, CS 28 #[.int .i64 c, .int .i64 6] (.int .i64 1) W)) : CK 45 #[.int .i64 a, .int .i64 b, .int .i64 c] (.bool true) w := by
 obtain ⟨n, n1, n4, en⟩ := va_any a
 obtain ⟨u, u1, eu⟩ := v_any b
 obtain ⟨off, hoff⟩ := zn1 (n % 4096)
 have lo : bits .and .i64 (n : Int) 4095 = (off : Int) := zq142
 obtain ⟨m, hm⟩ := zn1 (n / 4194304 * 4194304 + 12288 + n % 4096)
 have em := va_bigE n n1
 rw [<- hm, lo] at em
 have qo : m % 4194304 = 12288 + off := by omega
 have hA : m < 4294967296 := by omega
 obtain ⟨i1, q1⟩ := zn2 (m / 4194304)
 obtain ⟨i0, q0⟩ := zn2 (m / 4096 % 1024)
 have ho : off + 4 <= 4096 := by omega
 have MP := hide1 (fun s (hC : Byt.asmD s.data.toList = (mapC, 0, 0)) W => k_mapperS mapC (by decide) s hC m u hA (by omega) 536870919 536873991 i1 i0 off 536870919 536873991 q1 q0 ho rfl rfl W)
 have RD := hide1 (fun X R (h0 : Qt X R (List.replicate 32 0) 0 csr0) (hi : In0 mapC R i1 i0 off 536870919 536873991 u m) => map_1 h0 hi (by omega) hA q1 qo)
 obtain ⟨o1, ho1⟩ := zn1 (4096 + i1 * 4)
 obtain ⟨o0, ho0⟩ := zn1 (8192 + i0 * 4)
 obtain ⟨o3, ho3⟩ := zn1 (12288 + off)
 have b1 : i1 < 1024 := by omega
 have b0 : i0 < 1024 := by omega
 have f1 : (m : Int) / 4194304 = (i1 : Int) := by omega
 have f2 : wrap64 (4096 + (i1 : Int) * 4) = (o1 : Int) := zq7
 have f2' : wrap64 ((i1 : Int) * 4) = (i1 : Int) * 4 := zq7
 obtain ⟨a12, ha12⟩ := zn1 (m / 4096 : Nat)
 have f3 : (m : Int) / 4096 = (a12 : Int) := by omega
 have f4 : bits .and .i64 (a12 : Int) 1023 = (i0 : Int) := by
  have := and_low a12 (by omega) 10 1023 (by decide) rfl
  rw [show a12 % 2 ^ 10 = i0 by omega] at this
  exact this
 have f5 : wrap64 (8192 + (i0 : Int) * 4) = (o0 : Int) := zq7
 have f5' : wrap64 ((i0 : Int) * 4) = (i0 : Int) * 4 := zq7
 have f6 : wrap64 (12288 + (off : Int)) = (o3 : Int) := zq7
 have HO := hide1 (And.intro ho1 (And.intro ho0 (And.intro ho3 (And.intro b1 (And.intro b0 ho)))))
 clear ho1 ho0 ho3 b1 b0 ho n1 n4 u1 q1 q0 qo hA ha12 hoff
 clear hm
 go_enter func45, ntmps45
 go_wp2_with fail
 refine (PK.out _).mono ?_
 rintro o w1 ⟨rfl, hw1⟩
 rw [hw1]
 clear hw1 w1
 go_wp2_with fail
 refine (MP.out _ (by kernel_rfl) _).mono ?_
 rintro o w2 ⟨⟨mb, rb, X, R, rfl, hm2⟩, hk2⟩
 obtain ⟨Y, r1, vw, mc, fx⟩ := RD.out X R hm2.qt hm2.ram.i
 have RN := hide1 (x_Run mb rb X hm2.inv 20 (by decide) w2 (hide1 hm2.xat))
 have i3 := run_inv 20 0 X hm2.inv
 rw [r1] at RN i3
 generalize (runG 20 0 X).1 = r20 at RN
 have l1 := hm2.l1
 have l2 := hm2.l2
 have K2 := hide1 hk2
 have yl := vw.len
 have A1 := hide1 (fun W hW => k_wordAtS mb rb Y i3 o1 zq537 536871111 zq538 W hW)
 have A0 := hide1 (fun W hW => k_wordAtS mb rb Y i3 o0 zq537 536873991 zq539 W hW)
 exact zq392
set_option maxRecDepth 100000 in
theorem k_maps_2 (a b c : Int) (w : World) (PK : Hid (∀ W : World, CS 28 #[.int .i64 c, .int .i64 6] (.int .i64 2) W)) : CK 45 #[.int .i64 a, .int .i64 b, .int .i64 c] (.bool true) w := by
 obtain ⟨n, n1, n4, en⟩ := va_any a
 obtain ⟨u, u1, eu⟩ := v_any b
 obtain ⟨off, hoff⟩ := zn1 (n % 4096)
 have lo : bits .and .i64 (n : Int) 4095 = (off : Int) := zq142
 have qo : n % 4096 = off := hoff.symm
 have hA : n < 4294967296 := by omega
 obtain ⟨i1, q1⟩ := zn2 (n / 4194304)
 obtain ⟨i0, q0⟩ := zn2 (n / 4096 % 1024)
 have ho : off + 4 <= 4096 := by omega
 have MP := hide1 (fun s (hC : Byt.asmD s.data.toList = (mapC, 0, 0)) W => k_mapperS mapC (by decide) s hC n u hA (by omega) 536872961 536873990 i1 i0 off 536872961 536873990 q1 q0 ho rfl rfl W)
 have RD := hide1 (fun X R (h0 : Qt X R (List.replicate 32 0) 0 csr0) (hi : In0 mapC R i1 i0 off 536872961 536873990 u n) => map_2 h0 hi (by omega) hA q1 q0 qo)
 obtain ⟨o1, ho1⟩ := zn1 (4096 + i1 * 4)
 obtain ⟨o0, ho0⟩ := zn1 (8192 + i0 * 4)
 obtain ⟨o3, ho3⟩ := zn1 (12288 + off)
 have b1 : i1 < 1024 := by omega
 have b0 : i0 < 1024 := by omega
 have f1 : (n : Int) / 4194304 = (i1 : Int) := by omega
 have f2 : wrap64 (4096 + (i1 : Int) * 4) = (o1 : Int) := zq7
 have f2' : wrap64 ((i1 : Int) * 4) = (i1 : Int) * 4 := zq7
 obtain ⟨a12, ha12⟩ := zn1 (n / 4096 : Nat)
 have f3 : (n : Int) / 4096 = (a12 : Int) := by omega
 have f4 : bits .and .i64 (a12 : Int) 1023 = (i0 : Int) := by
  have := and_low a12 (by omega) 10 1023 (by decide) rfl
  rw [show a12 % 2 ^ 10 = i0 by omega] at this
  exact this
 have f5 : wrap64 (8192 + (i0 : Int) * 4) = (o0 : Int) := zq7
 have f5' : wrap64 ((i0 : Int) * 4) = (i0 : Int) * 4 := zq7
 have f6 : wrap64 (12288 + (off : Int)) = (o3 : Int) := zq7
 have HO := hide1 (And.intro ho1 (And.intro ho0 (And.intro ho3 (And.intro b1 (And.intro b0 ho)))))
 clear ho1 ho0 ho3 b1 b0 ho n1 n4 u1 q1 q0 qo hA ha12 hoff
 go_enter func45, ntmps45
 go_wp2_with fail
 refine (PK.out _).mono ?_
 rintro o w1 ⟨rfl, hw1⟩
 rw [hw1]
 clear hw1 w1
 go_wp2_with fail
 refine (MP.out _ (by kernel_rfl) _).mono ?_
 rintro o w2 ⟨⟨mb, rb, X, R, rfl, hm2⟩, hk2⟩
 obtain ⟨Y, r1, vw, mc, fx⟩ := RD.out X R hm2.qt hm2.ram.i
 have RN := hide1 (x_Run mb rb X hm2.inv 20 (by decide) w2 (hide1 hm2.xat))
 have i3 := run_inv 20 0 X hm2.inv
 rw [r1] at RN i3
 generalize (runG 20 0 X).1 = r20 at RN
 have l1 := hm2.l1
 have l2 := hm2.l2
 have K2 := hide1 hk2
 have yl := vw.len
 have A1 := hide1 (fun W hW => k_wordAtS mb rb Y i3 o1 zq537 536872961 zq538 W hW)
 have A0 := hide1 (fun W hW => k_wordAtS mb rb Y i3 o0 zq537 536873990 zq539 W hW)
 exact zq393
set_option maxRecDepth 100000 in
theorem k_maps_3 (a b c : Int) (w : World) (PK : Hid (∀ W : World, CS 28 #[.int .i64 c, .int .i64 6] (.int .i64 3) W)) : CK 45 #[.int .i64 a, .int .i64 b, .int .i64 c] (.bool true) w := by
 obtain ⟨n, n1, n4, en⟩ := va_any a
 obtain ⟨u, u1, eu⟩ := v_any b
 obtain ⟨off, hoff⟩ := zn1 (n % 4096)
 have lo : bits .and .i64 (n : Int) 4095 = (off : Int) := zq142
 have qo : n % 4096 = off := hoff.symm
 have hA : n < 4294967296 := by omega
 obtain ⟨i1, q1⟩ := zn2 (n / 4194304)
 obtain ⟨i0, q0⟩ := zn2 (n / 4096 % 1024)
 have ho : off + 4 <= 4096 := by omega
 have MP := hide1 (fun s (hC : Byt.asmD s.data.toList = (mapC, 0, 0)) W => k_mapperS mapC (by decide) s hC n u hA (by omega) 536872961 536873987 i1 i0 off 536872961 536873987 q1 q0 ho rfl rfl W)
 have RD := hide1 (fun X R (h0 : Qt X R (List.replicate 32 0) 0 csr0) (hi : In0 mapC R i1 i0 off 536872961 536873987 u n) => map_3 h0 hi (by omega) hA q1 q0 qo)
 obtain ⟨o1, ho1⟩ := zn1 (4096 + i1 * 4)
 obtain ⟨o0, ho0⟩ := zn1 (8192 + i0 * 4)
 obtain ⟨o3, ho3⟩ := zn1 (12288 + off)
 have b1 : i1 < 1024 := by omega
 have b0 : i0 < 1024 := by omega
 have f1 : (n : Int) / 4194304 = (i1 : Int) := by omega
 have f2 : wrap64 (4096 + (i1 : Int) * 4) = (o1 : Int) := zq7
 have f2' : wrap64 ((i1 : Int) * 4) = (i1 : Int) * 4 := zq7
 obtain ⟨a12, ha12⟩ := zn1 (n / 4096 : Nat)
 have f3 : (n : Int) / 4096 = (a12 : Int) := by omega
 have f4 : bits .and .i64 (a12 : Int) 1023 = (i0 : Int) := by
  have := and_low a12 (by omega) 10 1023 (by decide) rfl
  rw [show a12 % 2 ^ 10 = i0 by omega] at this
  exact this
 have f5 : wrap64 (8192 + (i0 : Int) * 4) = (o0 : Int) := zq7
 have f5' : wrap64 ((i0 : Int) * 4) = (i0 : Int) * 4 := zq7
 have f6 : wrap64 (12288 + (off : Int)) = (o3 : Int) := zq7
 have HO := hide1 (And.intro ho1 (And.intro ho0 (And.intro ho3 (And.intro b1 (And.intro b0 ho)))))
 clear ho1 ho0 ho3 b1 b0 ho n1 n4 u1 q1 q0 qo hA ha12 hoff
 go_enter func45, ntmps45
 go_wp2_with fail
 refine (PK.out _).mono ?_
 rintro o w1 ⟨rfl, hw1⟩
 rw [hw1]
 clear hw1 w1
 go_wp2_with fail
 refine (MP.out _ (by kernel_rfl) _).mono ?_
 rintro o w2 ⟨⟨mb, rb, X, R, rfl, hm2⟩, hk2⟩
 obtain ⟨Y, r1, vw, mc, fx⟩ := RD.out X R hm2.qt hm2.ram.i
 have RN := hide1 (x_Run mb rb X hm2.inv 20 (by decide) w2 (hide1 hm2.xat))
 have i3 := run_inv 20 0 X hm2.inv
 rw [r1] at RN i3
 generalize (runG 20 0 X).1 = r20 at RN
 have l1 := hm2.l1
 have l2 := hm2.l2
 have K2 := hide1 hk2
 have yl := vw.len
 have A1 := hide1 (fun W hW => k_wordAtS mb rb Y i3 o1 zq537 536872961 zq538 W hW)
 have A0 := hide1 (fun W hW => k_wordAtS mb rb Y i3 o0 zq537 536874051 zq539 W hW)
 have A3 := hide1 (fun W hW => k_wordAtS mb rb Y i3 o3 zq537 0 zq540 W hW)
 have RG := hide1 (fun W hW => k_regS mb rb Y 3 W hW)
 generalize (regU Y.x 3).1 = g3 at RG
 have C1 := hide1 (fun W hW => k_csrS mb rb Y i3.ok 834 W hW)
 have e1 : (xcsrE Y 834).1 = Y.c.mcause := rfl
 rw [e1, mc] at C1
 replace C1 : Hid (∀ W, XAt W mb rb Y -> CK 95 #[.pointer (some ⟨mb, 0, none⟩), .int .i64 834] (.int .i64 15) W) := C1
 exact zq394
set_option maxRecDepth 100000 in
theorem k_maps_4 (a b c : Int) (w : World) (PK : Hid (∀ W : World, CS 28 #[.int .i64 c, .int .i64 6] (.int .i64 4) W)) : CK 45 #[.int .i64 a, .int .i64 b, .int .i64 c] (.bool true) w := by
 obtain ⟨n, n1, n4, en⟩ := va_any a
 obtain ⟨u, u1, eu⟩ := v_any b
 obtain ⟨off, hoff⟩ := zn1 (n % 4096)
 have lo : bits .and .i64 (n : Int) 4095 = (off : Int) := zq142
 have qo : n % 4096 = off := hoff.symm
 have hA : n < 4294967296 := by omega
 obtain ⟨i1, q1⟩ := zn2 (n / 4194304)
 obtain ⟨i0, q0⟩ := zn2 (n / 4096 % 1024)
 have ho : off + 4 <= 4096 := by omega
 have MP := hide1 (fun s (hC : Byt.asmD s.data.toList = (mapC, 0, 0)) W => k_mapperS mapC (by decide) s hC n u hA (by omega) 536872961 536874007 i1 i0 off 536872961 536874007 q1 q0 ho rfl rfl W)
 have RD := hide1 (fun X R (h0 : Qt X R (List.replicate 32 0) 0 csr0) (hi : In0 mapC R i1 i0 off 536872961 536874007 u n) => map_4 h0 hi (by omega) hA q1 q0 qo)
 obtain ⟨o1, ho1⟩ := zn1 (4096 + i1 * 4)
 obtain ⟨o0, ho0⟩ := zn1 (8192 + i0 * 4)
 obtain ⟨o3, ho3⟩ := zn1 (12288 + off)
 have b1 : i1 < 1024 := by omega
 have b0 : i0 < 1024 := by omega
 have f1 : (n : Int) / 4194304 = (i1 : Int) := by omega
 have f2 : wrap64 (4096 + (i1 : Int) * 4) = (o1 : Int) := zq7
 have f2' : wrap64 ((i1 : Int) * 4) = (i1 : Int) * 4 := zq7
 obtain ⟨a12, ha12⟩ := zn1 (n / 4096 : Nat)
 have f3 : (n : Int) / 4096 = (a12 : Int) := by omega
 have f4 : bits .and .i64 (a12 : Int) 1023 = (i0 : Int) := by
  have := and_low a12 (by omega) 10 1023 (by decide) rfl
  rw [show a12 % 2 ^ 10 = i0 by omega] at this
  exact this
 have f5 : wrap64 (8192 + (i0 : Int) * 4) = (o0 : Int) := zq7
 have f5' : wrap64 ((i0 : Int) * 4) = (i0 : Int) * 4 := zq7
 have f6 : wrap64 (12288 + (off : Int)) = (o3 : Int) := zq7
 have HO := hide1 (And.intro ho1 (And.intro ho0 (And.intro ho3 (And.intro b1 (And.intro b0 ho)))))
 clear ho1 ho0 ho3 b1 b0 ho n1 n4 u1 q1 q0 qo hA ha12 hoff
 go_enter func45, ntmps45
 go_wp2_with fail
 refine (PK.out _).mono ?_
 rintro o w1 ⟨rfl, hw1⟩
 rw [hw1]
 clear hw1 w1
 go_wp2_with fail
 refine (MP.out _ (by kernel_rfl) _).mono ?_
 rintro o w2 ⟨⟨mb, rb, X, R, rfl, hm2⟩, hk2⟩
 obtain ⟨Y, r1, vw, mc, fx⟩ := RD.out X R hm2.qt hm2.ram.i
 have RN := hide1 (x_Run mb rb X hm2.inv 20 (by decide) w2 (hide1 hm2.xat))
 have i3 := run_inv 20 0 X hm2.inv
 rw [r1] at RN i3
 generalize (runG 20 0 X).1 = r20 at RN
 have l1 := hm2.l1
 have l2 := hm2.l2
 have K2 := hide1 hk2
 have yl := vw.len
 have A1 := hide1 (fun W hW => k_wordAtS mb rb Y i3 o1 zq537 536872961 zq538 W hW)
 have A0 := hide1 (fun W hW => k_wordAtS mb rb Y i3 o0 zq537 536874007 zq539 W hW)
 exact zq393
set_option maxRecDepth 100000 in
theorem k_maps_5 (a b c : Int) (w : World) (PK : Hid (∀ W : World, CS 28 #[.int .i64 c, .int .i64 6] (.int .i64 5) W)) : CK 45 #[.int .i64 a, .int .i64 b, .int .i64 c] (.bool true) w := by
 obtain ⟨n, n1, n4, en⟩ := va_any a
 obtain ⟨u, u1, eu⟩ := v_any b
 obtain ⟨off, hoff⟩ := zn1 (n % 4096)
 have lo : bits .and .i64 (n : Int) 4095 = (off : Int) := zq142
 have qo : n % 4096 = off := hoff.symm
 have hA : n < 4294967296 := by omega
 obtain ⟨i1, q1⟩ := zn2 (n / 4194304)
 obtain ⟨i0, q0⟩ := zn2 (n / 4096 % 1024)
 have ho : off + 4 <= 4096 := by omega
 have MP := hide1 (fun s (hC : Byt.asmD s.data.toList = (mapC, 0, 0)) W => k_mapperS mapC (by decide) s hC n u hA (by omega) 536871943 536873991 i1 i0 off 536871943 536873991 q1 q0 ho rfl rfl W)
 have RD := hide1 (fun X R (h0 : Qt X R (List.replicate 32 0) 0 csr0) (hi : In0 mapC R i1 i0 off 536871943 536873991 u n) => map_5 h0 hi (by omega) hA q1 qo)
 obtain ⟨o1, ho1⟩ := zn1 (4096 + i1 * 4)
 obtain ⟨o0, ho0⟩ := zn1 (8192 + i0 * 4)
 obtain ⟨o3, ho3⟩ := zn1 (12288 + off)
 have b1 : i1 < 1024 := by omega
 have b0 : i0 < 1024 := by omega
 have f1 : (n : Int) / 4194304 = (i1 : Int) := by omega
 have f2 : wrap64 (4096 + (i1 : Int) * 4) = (o1 : Int) := zq7
 have f2' : wrap64 ((i1 : Int) * 4) = (i1 : Int) * 4 := zq7
 obtain ⟨a12, ha12⟩ := zn1 (n / 4096 : Nat)
 have f3 : (n : Int) / 4096 = (a12 : Int) := by omega
 have f4 : bits .and .i64 (a12 : Int) 1023 = (i0 : Int) := by
  have := and_low a12 (by omega) 10 1023 (by decide) rfl
  rw [show a12 % 2 ^ 10 = i0 by omega] at this
  exact this
 have f5 : wrap64 (8192 + (i0 : Int) * 4) = (o0 : Int) := zq7
 have f5' : wrap64 ((i0 : Int) * 4) = (i0 : Int) * 4 := zq7
 have f6 : wrap64 (12288 + (off : Int)) = (o3 : Int) := zq7
 have HO := hide1 (And.intro ho1 (And.intro ho0 (And.intro ho3 (And.intro b1 (And.intro b0 ho)))))
 clear ho1 ho0 ho3 b1 b0 ho n1 n4 u1 q1 q0 qo hA ha12 hoff
 go_enter func45, ntmps45
 go_wp2_with fail
 refine (PK.out _).mono ?_
 rintro o w1 ⟨rfl, hw1⟩
 rw [hw1]
 clear hw1 w1
 go_wp2_with fail
 refine (MP.out _ (by kernel_rfl) _).mono ?_
 rintro o w2 ⟨⟨mb, rb, X, R, rfl, hm2⟩, hk2⟩
 obtain ⟨Y, r1, vw, mc, fx⟩ := RD.out X R hm2.qt hm2.ram.i
 have RN := hide1 (x_Run mb rb X hm2.inv 20 (by decide) w2 (hide1 hm2.xat))
 have i3 := run_inv 20 0 X hm2.inv
 rw [r1] at RN i3
 generalize (runG 20 0 X).1 = r20 at RN
 have l1 := hm2.l1
 have l2 := hm2.l2
 have K2 := hide1 hk2
 have yl := vw.len
 have A1 := hide1 (fun W hW => k_wordAtS mb rb Y i3 o1 zq537 536871943 zq538 W hW)
 have A0 := hide1 (fun W hW => k_wordAtS mb rb Y i3 o0 zq537 536873991 zq539 W hW)
 exact zq393
theorem k_mapsS (a b c : Int) (h0 : -9223372036854775808 <= c) (h1 : c <= 9223372036854775807) (w : World) : CK 45 #[.int .i64 a, .int .i64 b, .int .i64 c] (.bool true) w := by
 obtain ⟨j, hj, PK⟩ := k_pickE c h0 h1 6 (by decide) (by decide)
 rcases (show j = 0 \/ j = 1 \/ j = 2 \/ j = 3 \/ j = 4 \/ j = 5 by omega) with rfl | rfl | rfl | rfl | rfl | rfl
 . exact k_maps_0 a b c w (hide1 PK)
 . exact k_maps_1 a b c w (hide1 PK)
 . exact k_maps_2 a b c w (hide1 PK)
 . exact k_maps_3 a b c w (hide1 PK)
 . exact k_maps_4 a b c w (hide1 PK)
 . exact k_maps_5 a b c w (hide1 PK)
end
section
variable {C R : List UInt8} {X : XS} {x : List Nat} {p p' : Nat} {c : XCsr} {i1 i0 off r l V A : Nat}
theorem reach_x {B : BusS} {S : CsrS} {va q1 q2 : Nat} (hg : va % 4096 = 4094) (t1 : trD B S va 2 = ((2147483648 + q1, 0), B)) (h1 : q1 + 2 <= B.ram.length) (t2 : trD B S ((va + 2) % 4294967296) 2 = ((2147483648 + q2, 0), B)) (h2 : q2 + 2 <= B.ram.length) : reachD B S va 4 2 = (⟨2147483648 + q1, 2, 2147483648 + q2, 2, 0, 0⟩, B) := by
 rw [reach_two _ _ _ _ _ 2 (by omega) (by decide)]
 have e1 : takesD ((2147483648 + q1 : Nat) : Int) ((2 : Nat) : Int) B.ram.length = true := zq140
 have e2 : takesD ((2147483648 + q2 : Nat) : Int) ((2 : Nat) : Int) B.ram.length = true := zq140
 unfold two1 rpD rpP
 rw [t1]
 simp only [e1, if_true]
 unfold two2
 rw [t2]
 simp only [e2, if_true]
theorem reach_xf {B : BusS} {S : CsrS} {va q1 : Nat} (hg : va % 4096 = 4094) (t1 : trD B S va 2 = ((2147483648 + q1, 0), B)) (h1 : q1 + 2 <= B.ram.length) (t2 : trD B S ((va + 2) % 4294967296) 2 = ((0, 1), B)) : reachD B S va 4 2 = (⟨0, 0, 0, 0, 1, (va + 2) % 4294967296⟩, B) := by
 rw [reach_two _ _ _ _ _ 2 (by omega) (by decide)]
 have e1 : takesD ((2147483648 + q1 : Nat) : Int) ((2 : Nat) : Int) B.ram.length = true := zq140
 unfold two1 rpD rpP
 rw [t1]
 simp only [e1, if_true]
 unfold two2
 rw [t2]
 simp
theorem Qt.xstore (h : Qt X R x p c) (I : Ins) (hk : cod R p = (3, (I, 0))) (va q1 q2 : Nat) (ho : (p + 4 <= 1024 /\ I.op = 18) /\ I.ln = 4) (hg : va % 4096 = 4094) (hva : wordN ((x.getD I.rs1.toNat 0 : Int) + I.im) = va) (t1 : trD X.b (xC X) va 2 = ((2147483648 + q1, 0), X.b)) (h1 : q1 + 2 <= 16384) (t2 : trD X.b (xC X) ((va + 2) % 4294967296) 2 = ((2147483648 + q2, 0), X.b)) (h2 : q2 + 2 <= 16384) (v : Nat) (hv : x.getD I.rs2.toNat 0 = v) : Gt X (stN (stN R q1 2 v) q2 2 (v / 65536)) x (p + 4) c := by
 have e : (niOf I).op = I.op := rfl
 have hx : ¬ xresD I.op = true := zq141
 have hn : nD I.op = 4 := by rw [ho.1.2]; rfl
 have hl : X.b.ram.length = 16384 := by rw [h.ram, h.len]
 have hc : ∀ u, croX X (niOf I) u = ((-1, 0), X.withB { X.b with ram := stN (stN R q1 2 v) q2 2 (v / 65536) }) := fun u => by
  unfold croX
  rw [e, if_neg hx, if_neg (by omega), if_neg (by omega), if_pos (by omega)]
  unfold stX stF vaD
  rw [h.x, e, show (niOf I).rs1 = I.rs1.toNat from rfl, show (niOf I).im = I.im from rfl, hva, hn, reach_x hg t1 (by rw [hl]; exact h1) t2 (by rw [hl]; exact h2)]
  have hr : storeD X.b ⟨2147483648 + q1, 2, 2147483648 + q2, 2, 0, 0⟩ (x.getD (niOf I).rs2 0) = { X.b with ram := stN (stN R q1 2 v) q2 2 (v / 65536) } := by
   have a1 : writeD X.b ((2147483648 + q1 : Nat) : Int) ((2 : Nat) : Int) v = { X.b with ram := stN R q1 2 v } := by
    unfold writeD
    rw [hl, if_pos (by unfold holdsD; simp; omega), h.ram, show ((((2147483648 + q1 : Nat) : Int)) - 2147483648).toNat = q1 by omega, Int.toNat_natCast]
   have a2 : writeD { X.b with ram := stN R q1 2 v } ((2147483648 + q2 : Nat) : Int) ((2 : Nat) : Int) (v / 65536) = { X.b with ram := stN (stN R q1 2 v) q2 2 (v / 65536) } := by
    unfold writeD
    dsimp only
    rw [stN_length, h.len, if_pos (by unfold holdsD; simp; omega), show ((((2147483648 + q2 : Nat) : Int)) - 2147483648).toNat = q2 by omega, Int.toNat_natCast]
   unfold storeD
   rw [show x.getD (niOf I).rs2 0 = v from hv, if_pos (show 0 < 2 by decide)]
   show writeD (writeD X.b ((2147483648 + q1 : Nat) : Int) ((2 : Nat) : Int) v) ((2147483648 + q2 : Nat) : Int) ((2 : Nat) : Int) (v / 65536) = _
   rw [a1, a2]
  simp only [hr, if_true]
 exact h.go I ho.1.1 hk hc (by rw [stN_length, stN_length, h.len]) h.waits h.mode rfl h.x (h.npc I ho.1.1 ho.2 (by omega) (by omega)) h.c h.mie
theorem Qt.xfault (h : Qt X R x p c) (I : Ins) (hk : cod R p = (3, (I, 0))) (va q1 : Nat) (ho : (p + 4 <= 1024 /\ I.op = 18) /\ I.ln = 4) (hg : va % 4096 = 4094) (hva : wordN ((x.getD I.rs1.toNat 0 : Int) + I.im) = va) (t1 : trD X.b (xC X) va 2 = ((2147483648 + q1, 0), X.b)) (h1 : q1 + 2 <= 16384) (t2 : trD X.b (xC X) ((va + 2) % 4294967296) 2 = ((0, 1), X.b)) (hv : xhdlD c.mtvec 15 = 2147483648 + p') (c' : XCsr) (hc' : cz { c with mepc := 2147483648 + p, mcause := 15, mtval := (va + 2) % 4294967296, mstatus := xmtrD c.mstatus 3 } = c') (hm : c'.mie = 0) : Ht X R x p' c' := by
 have e : (niOf I).op = I.op := rfl
 have hx : ¬ xresD I.op = true := zq141
 have hn : nD I.op = 4 := by rw [ho.1.2]; rfl
 have hl : X.b.ram.length = 16384 := by rw [h.ram, h.len]
 have hc : ∀ u, croX X (niOf I) u = ((((15 : Nat) : Int), (va + 2) % 4294967296), X) := fun u => by
  unfold croX
  rw [e, if_neg hx, if_neg (by omega), if_neg (by omega), if_pos (by omega)]
  unfold stX stF vaD
  rw [h.x, e, show (niOf I).rs1 = I.rs1.toNat from rfl, show (niOf I).im = I.im from rfl, hva, hn, reach_xf hg t1 (by rw [hl]; exact h1) t2]
  rw [if_neg (show ¬ (1 : Nat) = 0 by decide)]
  rfl
 exact h.exc I ho.1.1 hk 15 _ (by decide) hc h.len h.waits h.mode h.ram h.x rfl h.c hv c' hc' hm
theorem In.more (hi : In C R i1 i0 off r l V A) (ho : 8192 <= 12288 + off) (k0 : Nat) (hk : k0 < 1024) (hne : k0 ≠ i0) (e : Int) (l2 : Nat) (he : wordN e = l2) : In0 C (laidB R (8192 + k0 * 4) (leA e 4).data.toList) i1 i0 off r l V A /\ Vw C (laidB R (8192 + k0 * 4) (leA e 4).data.toList) i1 k0 off r l2 0 /\ ∀ j, j < 132 -> (laidB R (8192 + k0 * 4) (leA e 4).data.toList).getD j 0 = (mpR C).getD j 0 := by
 have kl := le_len e
 have hl := hi.i.v.len
 have b1 := hi.i.v.b1
 have b0 := hi.i.v.b0
 have bo := hi.i.v.bo
 have f : ∀ q, q + 4 <= 16384 -> (q + 4 <= 8192 + k0 * 4 \/ 8192 + k0 * 4 + 4 <= q) -> ldN (((laidB R (8192 + k0 * 4) (leA e 4).data.toList).drop q).take 4) = ldN ((R.drop q).take 4) := fun q h1 h2 => ld_laid_far _ _ _ _ (by rw [kl, hl]; omega) (by rw [hl]; exact h1) (by rw [kl]; exact h2)
 have cd : ∀ p, p + 4 <= 132 -> cod (laidB R (8192 + k0 * 4) (leA e 4).data.toList) p = cod (mpR C) p := fun p hp => (cod_laid_far _ _ _ _ (by rw [kl, hl]; omega) (by rw [hl]; omega) (by omega)).trans (hi.i.v.code p hp)
 have ln : (laidB R (8192 + k0 * 4) (leA e 4).data.toList).length = 16384 := by rw [laidB_length, hl]
 refine ⟨⟨⟨ln, cd, b1, b0, bo, ?_, ?_, ?_⟩, ?_, ?_, ?_, ?_⟩, ⟨ln, cd, b1, hk, bo, ?_, ?_, ?_⟩, fun j hj => ?_⟩
 . rw [f _ (by omega) (by omega), hi.i.v.wr]
 . rw [f _ (by omega) (by omega), hi.i.v.wl]
 . rw [f _ (by omega) (by omega), hi.i.v.wm]
 . rw [f _ (by omega) (by omega), hi.i.a0]
 . rw [f _ (by omega) (by omega), hi.i.a1]
 . rw [f _ (by omega) (by omega), hi.i.a2]
 . rw [f _ (by omega) (by omega), hi.i.a3]
 . rw [f _ (by omega) (by omega), hi.i.v.wr]
 . rw [ld_laid _ _ _ (by rw [hl]; omega), he]
 . rw [f _ (by omega) (by omega), hi.i.v.wm]
 . rw [laidB_getD _ _ _ _ (by rw [kl, hl]; omega), if_neg (by omega), hi.by' j hj]
set_option maxRecDepth 100000 in
theorem cros_yes (h0 : Qt X R (List.replicate 32 0) 0 csr0) (hi : In0 croC R i1 i0 4092 536872961 536874183 V A) (v2 : Vw croC R i1 (i0 + 1) 4092 536872961 536871111 0) (by' : ∀ j, j < 132 -> R.getD j 0 = (mpR croC).getD j 0) (hV : V < 4294967296) (hA : A + 2 < 4294967296) (q1 : A / 4194304 = i1) (q0 : A / 4096 % 1024 = i0) (qo : A % 4096 = 4094) (hn : i0 + 1 < 1024) : ∃ Y, (runG 20 0 X).2 = Y /\ Y.b.ram.length = 16384 /\ ldN ((Y.b.ram.drop 16380).take 4) = V % 65536 * 65536 /\ ldN ((Y.b.ram.drop 0).take 4) = V / 65536 /\ Y.c.mcause = 0 := by
 obtain ⟨X9, h9, e9⟩ := cro_setup h0 hi
 have g : Pg (mC 133120 2147483776 0 0 0 2148007937) := ⟨rfl, rfl⟩
 have w0 : wordN ((A : Int) + 0) = A := zq51
 have cd := hi.v.code
 have hl := hi.v.len
 obtain ⟨t1, s1, u1⟩ := h9.on g A 2 (.inr rfl)
 obtain ⟨t2, s2, u2⟩ := h9.on g ((A + 2) % 4294967296) 2 (.inr rfl)
 have k1 : trD X9.b (xC X9) A 2 = ((2147483648 + 16382, 0), X9.b) := by
  rw [t1, hi.v.ptr h9.ram q1, hi.v.leaf h9.ram s1 u1 q0 (by decide) (by decide) (by decide) 0 (by decide), if_pos rfl, qo]
 have k2 : trD X9.b (xC X9) ((A + 2) % 4294967296) 2 = ((2147483648 + 0, 0), X9.b) := by
  rw [t2, v2.ptr h9.ram (by omega), v2.leaf h9.ram s2 u2 (by omega) (by decide) (by decide) (by decide) 0 (by decide), if_pos rfl, show (A + 2) % 4294967296 % 4096 = 0 by omega]
 obtain ⟨X10, h10, e10⟩ := h9.xstore ⟨18, 0, 2, 1, 0, 4⟩ ((cd 36 (by decide)).trans (by kernel_rfl)) A 16382 0 (by decide) qo w0 k1 (by decide) k2 (by decide) V (by kernel_rfl)
 have c40 : cod (stN (stN R 16382 2 V) 0 2 (V / 65536)) 40 = cod R 40 := cod_eq 40 (by rw [stN_length, stN_length, hl]; decide) (by rw [hl]; decide) fun j j1 j2 => by
  rw [stN_getD _ _ _ _ _ (by rw [stN_length, hl]; decide), if_neg (by omega), stN_getD _ _ _ _ _ (by rw [hl]; decide), if_neg (by omega)]
 obtain ⟨Y, ry, hy⟩ := Qt.spin (c40.trans ((cd 40 (by decide)).trans (by kernel_rfl))) (by decide) 10 10 X10 h10
 have e := (e9 11 0).trans ((e10 10 9).trans ry)
 have z := hi.v.wm
 rw [ld4_bt _ _ (by rw [hl]; decide)] at z
 have p2 : bt R 2 = 0 := by unfold bt; rw [by' 2 (by decide)]; rfl
 have p3 : bt R 3 = 0 := by unfold bt; rw [by' 3 (by decide)]; rfl
 have sb : ∀ j, bt (stN (stN R 16382 2 V) 0 2 (V / 65536)) j = if 0 <= j /\ j < 0 + 2 then V / 65536 / 256 ^ (j - 0) % 256 else if 16382 <= j /\ j < 16382 + 2 then V / 256 ^ (j - 16382) % 256 else bt R j := fun j => by
  rw [st_bt _ _ _ _ _ (by rw [stN_length, hl]; decide), st_bt _ _ _ _ _ (by rw [hl]; decide)]
 refine ⟨Y, by rw [e], by rw [hy.ram, hy.len], ?_, ?_, (congrArg XCsr.mcause hy.c : (cz Y.c).mcause = 0)⟩
 . rw [hy.ram, ld4_bt _ _ (by rw [stN_length, stN_length, hl]; decide), sb, sb, sb, sb]
   simp
   simp at z
   omega
 . rw [hy.ram, ld4_bt _ _ (by rw [stN_length, stN_length, hl]; decide), sb, sb, sb, sb]
   simp [p2, p3]
   omega
set_option maxRecDepth 100000 in
theorem cros_no (h0 : Qt X R (List.replicate 32 0) 0 csr0) (hi : In0 croC R i1 i0 4092 536872961 536874183 V A) (wk : ∀ (B : BusS) (S : CsrS), B.ram = R -> S.sum = 0 -> S.mxr = 0 -> walk1 B S 2147487744 ((A + 2) % 4294967296) 2 1 = ((0, 1), B)) (by' : ∀ j, j < 132 -> R.getD j 0 = (mpR croC).getD j 0) (hA : A + 2 < 4294967296) (q1 : A / 4194304 = i1) (q0 : A / 4096 % 1024 = i0) (qo : A % 4096 = 4094) : ∃ Y, (runG 20 0 X).2 = Y /\ Y.b.ram.length = 16384 /\ ldN ((Y.b.ram.drop 16380).take 4) = 0 /\ ldN ((Y.b.ram.drop 0).take 4) = 3991 /\ Y.c.mcause = 15 /\ Y.c.mtval = (A + 2) % 4294967296 := by
 obtain ⟨X9, h9, e9⟩ := cro_setup h0 hi
 have g : Pg (mC 133120 2147483776 0 0 0 2148007937) := ⟨rfl, rfl⟩
 have w0 : wordN ((A : Int) + 0) = A := zq51
 have cd := hi.v.code
 have hl := hi.v.len
 obtain ⟨t1, s1, u1⟩ := h9.on g A 2 (.inr rfl)
 obtain ⟨t2, s2, u2⟩ := h9.on g ((A + 2) % 4294967296) 2 (.inr rfl)
 have k1 : trD X9.b (xC X9) A 2 = ((2147483648 + 16382, 0), X9.b) := by
  rw [t1, hi.v.ptr h9.ram q1, hi.v.leaf h9.ram s1 u1 q0 (by decide) (by decide) (by decide) 0 (by decide), if_pos rfl, qo]
 have k2 : trD X9.b (xC X9) ((A + 2) % 4294967296) 2 = ((0, 1), X9.b) := by rw [t2, wk _ _ h9.ram s2 u2]
 obtain ⟨X10, h10, e10⟩ := h9.xfault (p' := 128) ⟨18, 0, 2, 1, 0, 4⟩ ((cd 36 (by decide)).trans (by kernel_rfl)) A 16382 (by decide) qo w0 k1 (by decide) k2 (by kernel_rfl) (mC 137216 2147483776 2147483684 15 ((A + 2) % 4294967296) 2148007937) (by kernel_rfl) rfl
 obtain ⟨Y, ry, hy⟩ := Qt.spin ((cd 128 (by decide)).trans (by kernel_rfl)) (by decide) 10 9 X10 h10
 have e := (e9 11 0).trans ((e10 10 9).trans ry)
 have p0 : bt R 0 = 151 := by unfold bt; rw [by' 0 (by decide)]; rfl
 have p1 : bt R 1 = 15 := by unfold bt; rw [by' 1 (by decide)]; rfl
 have p2 : bt R 2 = 0 := by unfold bt; rw [by' 2 (by decide)]; rfl
 have p3 : bt R 3 = 0 := by unfold bt; rw [by' 3 (by decide)]; rfl
 refine ⟨Y, by rw [e], by rw [hy.ram, hl], by rw [hy.ram]; exact hi.v.wm, ?_, (congrArg XCsr.mcause hy.c : (cz Y.c).mcause = 15), (congrArg XCsr.mtval hy.c : (cz Y.c).mtval = _)⟩
 rw [hy.ram, ld4_bt _ _ (by rw [hl]; decide), p0, p1, p2, p3]
theorem cro_wk1 {i1 k0 off : Nat} {A2 : Nat} (v : Vw C R i1 k0 off 536872961 0 0) (q1 : A2 / 4194304 = i1) (q0 : A2 / 4096 % 1024 = k0) (B : BusS) (S : CsrS) (hR : B.ram = R) (s1 : S.sum = 0) (s2 : S.mxr = 0) : walk1 B S 2147487744 A2 2 1 = ((0, 1), B) := by
 rw [v.ptr hR q1, v.leafF hR s1 s2 q0 (.inl (by decide))]
theorem cro_wk2 {i1 k0 off l m : Nat} {A2 : Nat} (v : Vw C R i1 k0 off 0 l m) (q1 : A2 / 4194304 = i1) (B : BusS) (S : CsrS) (hR : B.ram = R) : walk1 B S 2147487744 A2 2 1 = ((0, 1), B) := by
 obtain ⟨e1, e2, e3⟩ := v.ent1 hR q1
 unfold walk1
 rw [if_neg (by rw [e1]; simp), e2, if_pos (.inl (by decide))]
theorem In.next (hi : In C R i1 i0 off r l V A) (h : i1 + 1 < 1024) : Vw C R (i1 + 1) i0 off 0 l 0 :=
 have b1 := hi.i.v.b1
 have b0 := hi.i.v.b0
 ⟨hi.i.v.len, hi.i.v.code, h, b0, hi.i.v.bo, hi.z _ (by omega) (by omega) (by omega) (by omega), hi.i.v.wl, hi.i.v.wm⟩
end
section
attribute [local go_sem ↓] Go.wp_at_zero Go.wp_at_succ
theorem vx_any (a : Int) : ∃ A : Nat, A <= 4290772990 /\ A % 4096 = 4094 /\ A / 4194304 % 2 = 0 /\ bits .or .i64 (bits .and .i64 a 4290768896) 4094 = (A : Int) := by
 obtain ⟨N, hN⟩ := zn1 ((a % 18446744073709551616).toNat &&& 4290768896)
 have e := and_any a 4290768896 (by decide)
 rw [<- hN] at e
 have b : N <= 4290768896 := by rw [hN]; exact Nat.and_le_right
 have m : N % 4096 = 0 := by
  rw [hN, show (4096 : Nat) = 2 ^ 12 from rfl, Nat.and_mod_two_pow, show 4290768896 % 2 ^ 12 = 0 from rfl, Nat.and_zero]
 have t : N / 4194304 % 2 = 0 := by
  have q : N.testBit 22 = false := by rw [hN, Nat.testBit_and, show Nat.testBit 4290768896 22 = false from rfl, Bool.and_false]
  rw [Nat.testBit_eq_decide_div_mod_eq] at q
  have := of_decide_eq_false q
  rw [show (2 : Nat) ^ 22 = 4194304 from rfl] at this
  omega
 refine ⟨N + 4094, by omega, by omega, by omega, ?_⟩
 have o := b_or N 4094 (by omega) (by decide)
 rw [show N ||| 4094 = N + 4094 by
  rw [show N = 2 ^ 12 * (N / 4096) by omega]
  exact (Nat.two_pow_add_eq_or_of_lt (i := 12) (by decide : 4094 < 2 ^ 12) (N / 4096)).symm] at o
 rw [show (4290768896 : Int) = ((4290768896 : Nat) : Int) from rfl, e]
 exact o
set_option maxRecDepth 100000 in
theorem k_cross_el (a b c L : Int) (w : World) (A V i1 i0 : Nat) (en : bits .or .i64 (bits .and .i64 a 4290768896) 4094 = (A : Int)) (eu : bits .and .i64 b 4294967295 = (V : Int)) (hV : V < 4294967296) (hA : A <= 4290772990) (qo : A % 4096 = 4094) (qe : A / 4194304 % 2 = 0) (q1 : A / 4194304 = i1) (q0 : A / 4096 % 1024 = i0) (T1 : Int.tmod c 2 = L) (T2 : IntKind.i64.wrap L = L) (T3 : wrap64 L = L) (T4 : (L == 0) = true) (hi : i0 = 1023) :
 CK 46 #[.int .i64 a, .int .i64 b, .int .i64 c] (.bool true) w := by
 have b1 : i1 < 1023 := by omega
 have b0 : i0 < 1024 := by omega
 obtain ⟨A2, hA2⟩ := zn1 (A + 2)
 obtain ⟨k0, hk0⟩ := zn1 (A2 / 4096 % 1024)
 obtain ⟨o2, ho2⟩ := zn1 (8192 + k0 * 4)
 obtain ⟨a12, ha12⟩ := zn1 (A / 4096)
 obtain ⟨a13, ha13⟩ := zn1 (A2 / 4096)
 have MP := hide1 (fun s (hC : Byt.asmD s.data.toList = (croC, 0, 0)) W => k_mapperS croC (by decide) s hC A V (by omega) hV 536872961 536874183 i1 i0 4092 536872961 536874183 q1 q0 (by decide) rfl rfl W)
 have f0 : wrap64 ((A : Int) + 2) = (A2 : Int) := zq7
 have f3 : (A : Int) / 4096 = (a12 : Int) := by omega
 have f4 : bits .and .i64 (a12 : Int) 1023 = (i0 : Int) := by
  have := and_low a12 (by omega) 10 1023 (by decide) rfl
  rw [show a12 % 2 ^ 10 = i0 by omega] at this
  exact this
 have g3 : (A2 : Int) / 4096 = (a13 : Int) := by omega
 have g4 : bits .and .i64 (a13 : Int) 1023 = (k0 : Int) := by
  have := and_low a13 (by omega) 10 1023 (by decide) rfl
  rw [show a13 % 2 ^ 10 = k0 by omega] at this
  exact this
 have f5 : wrap64 (8192 + (k0 : Int) * 4) = (o2 : Int) := zq7
 have f5' : wrap64 ((k0 : Int) * 4) = (k0 : Int) * 4 := zq7
 have y : ((i0 : Int) == 1023) = true := by rw [hi]; rfl
 have y2 : ((i0 : Int) != 1023) = false := by rw [hi]; rfl
 obtain ⟨vl, hvl⟩ := zn1 (V % 65536)
 obtain ⟨vh, hvh⟩ := zn1 (V % 65536 * 65536)
 obtain ⟨vt, hvt⟩ := zn1 (V / 65536)
 have v1 : bits .and .i64 (V : Int) 65535 = (vl : Int) := by rw [hvl]; exact and_low V hV 16 65535 (by decide) rfl
 have v2 : wrap64 ((vl : Int) * 65536) = (vh : Int) := zq7
 have v3 : (V : Int) / 65536 = (vt : Int) := by omega
 have v4 : bits .and .i64 (vt : Int) 65535 = (vt : Int) := by
  have := and_low vt (by omega) 16 65535 (by decide) rfl
  rw [show vt % 2 ^ 16 = vt by omega] at this
  exact this
 have HO : Hid (o2 + 4 <= 16384) := hide1 (by omega)
 clear b1 b0 hV hA qo qe q1 q0 hi hA2 hk0 ho2 ha12 ha13 hvl hvh hvt
 go_enter func46, ntmps46
 go_wp2_with fail
 refine (MP.out _ (by kernel_rfl) _).mono ?_
 rintro o w2 ⟨⟨mb, rb, X, R, rfl, hm2⟩, hk2⟩
 have l1 := hm2.l1
 have l2 := hm2.l2
 have M2 := hide1 hm2.xat
 have K2 := hide1 hk2
 clear hm2 hk2 MP HO
 go_wp2_with fail
 refine (v_Le4 536871111 _).mono ?_
 rintro o w3 ⟨rfl, hk⟩
 have M3 := hide1 (M2.out.kept (Below.kept hk []))
 have K3 := hide1 (K2.out.trans (Below.kept hk []))
 clear hk M2 K2
 go_wp2_with fail
 go_ret
 exact ⟨rfl, K3.out⟩
set_option maxRecDepth 100000 in
theorem k_cross_en (a b c L : Int) (w : World) (A V i1 i0 : Nat) (en : bits .or .i64 (bits .and .i64 a 4290768896) 4094 = (A : Int)) (eu : bits .and .i64 b 4294967295 = (V : Int)) (hV : V < 4294967296) (hA : A <= 4290772990) (qo : A % 4096 = 4094) (qe : A / 4194304 % 2 = 0) (q1 : A / 4194304 = i1) (q0 : A / 4096 % 1024 = i0) (T1 : Int.tmod c 2 = L) (T2 : IntKind.i64.wrap L = L) (T3 : wrap64 L = L) (T4 : (L == 0) = true) (hi : ¬ i0 = 1023) :
 CK 46 #[.int .i64 a, .int .i64 b, .int .i64 c] (.bool true) w := by
 have b1 : i1 < 1023 := by omega
 have b0 : i0 < 1024 := by omega
 obtain ⟨A2, hA2⟩ := zn1 (A + 2)
 obtain ⟨k0, hk0⟩ := zn1 (A2 / 4096 % 1024)
 obtain ⟨o2, ho2⟩ := zn1 (8192 + k0 * 4)
 obtain ⟨a12, ha12⟩ := zn1 (A / 4096)
 obtain ⟨a13, ha13⟩ := zn1 (A2 / 4096)
 have MP := hide1 (fun s (hC : Byt.asmD s.data.toList = (croC, 0, 0)) W => k_mapperS croC (by decide) s hC A V (by omega) hV 536872961 536874183 i1 i0 4092 536872961 536874183 q1 q0 (by decide) rfl rfl W)
 have f0 : wrap64 ((A : Int) + 2) = (A2 : Int) := zq7
 have f3 : (A : Int) / 4096 = (a12 : Int) := by omega
 have f4 : bits .and .i64 (a12 : Int) 1023 = (i0 : Int) := by
  have := and_low a12 (by omega) 10 1023 (by decide) rfl
  rw [show a12 % 2 ^ 10 = i0 by omega] at this
  exact this
 have g3 : (A2 : Int) / 4096 = (a13 : Int) := by omega
 have g4 : bits .and .i64 (a13 : Int) 1023 = (k0 : Int) := by
  have := and_low a13 (by omega) 10 1023 (by decide) rfl
  rw [show a13 % 2 ^ 10 = k0 by omega] at this
  exact this
 have f5 : wrap64 (8192 + (k0 : Int) * 4) = (o2 : Int) := zq7
 have f5' : wrap64 ((k0 : Int) * 4) = (k0 : Int) * 4 := zq7
 have y : ((i0 : Int) == 1023) = false := by simp only [beq_eq_false_iff_ne, ne_eq]; omega
 have y2 : ((i0 : Int) != 1023) = true := by simp only [bne_iff_ne, ne_eq]; omega
 obtain ⟨vl, hvl⟩ := zn1 (V % 65536)
 obtain ⟨vh, hvh⟩ := zn1 (V % 65536 * 65536)
 obtain ⟨vt, hvt⟩ := zn1 (V / 65536)
 have v1 : bits .and .i64 (V : Int) 65535 = (vl : Int) := by rw [hvl]; exact and_low V hV 16 65535 (by decide) rfl
 have v2 : wrap64 ((vl : Int) * 65536) = (vh : Int) := zq7
 have v3 : (V : Int) / 65536 = (vt : Int) := by omega
 have v4 : bits .and .i64 (vt : Int) 65535 = (vt : Int) := by
  have := and_low vt (by omega) 16 65535 (by decide) rfl
  rw [show vt % 2 ^ 16 = vt by omega] at this
  exact this
 have RD : Hid (∀ X R, Qt X R (List.replicate 32 0) 0 csr0 -> In croC R i1 i0 4092 536872961 536874183 V A -> ∃ Y, (runG 20 0 (loadX X o2 (leA 536871111 4))).2 = Y /\ Y.b.ram.length = 16384 /\ ldN ((Y.b.ram.drop 16380).take 4) = vh /\ ldN ((Y.b.ram.drop 0).take 4) = vt /\ Y.c.mcause = 0) := hide1 (fun X R h0 hr => by
  have kk : k0 = i0 + 1 := by omega
  obtain ⟨n0, n1, n2⟩ := hr.more (by decide) k0 (by omega) (by omega) 536871111 536871111 rfl
  have h1 := qt_load h0 o2 (leA 536871111 4)
  rw [<- ho2] at n0 n1 n2
  rw [kk] at n1
  rw [hvh, hvt]
  exact cros_yes h1 n0 n1 n2 hV (by omega) q1 q0 qo (by omega))
 have HO : Hid (o2 + 4 <= 16384) := hide1 (by omega)
 clear b1 b0 hV hA qo qe q1 q0 hi hA2 hk0 ho2 ha12 ha13 hvl hvh hvt
 go_enter func46, ntmps46
 go_wp2_with fail
 refine (MP.out _ (by kernel_rfl) _).mono ?_
 rintro o w2 ⟨⟨mb, rb, X, R, rfl, hm2⟩, hk2⟩
 have l1 := hm2.l1
 have l2 := hm2.l2
 have M2 := hide1 hm2.xat
 have K2 := hide1 hk2
 obtain ⟨Y, r1, yl, y16, y0, mc⟩ := RD.out X R hm2.qt hm2.ram
 have RN := hide1 (fun W hW => x_Run mb rb (loadX X o2 (leA 536871111 4)) (load_inv hm2.inv o2 (leA 536871111 4)) 20 (by decide) W (hide1 hW))
 have i3 := run_inv 20 0 (loadX X o2 (leA 536871111 4)) (load_inv hm2.inv o2 (leA 536871111 4))
 rw [r1] at RN i3
 generalize (runG 20 0 (loadX X o2 (leA 536871111 4))).1 = r20 at RN
 have A1 := hide1 (fun W hW => k_wordAtS mb rb Y i3 16380 zq541 _ y16 W hW)
 have A0 := hide1 (fun W hW => k_wordAtS mb rb Y i3 0 zq541 _ y0 W hW)
 have C1 := hide1 (fun W hW => k_csrS mb rb Y i3.ok 834 W hW)
 have e1 : (xcsrE Y 834).1 = Y.c.mcause := rfl
 rw [e1, mc] at C1
 replace C1 : Hid (∀ W, XAt W mb rb Y -> CK 95 #[.pointer (some ⟨mb, 0, none⟩), .int .i64 834] (.int .i64 0) W) := C1
 have C2 := hide1 (fun W hW => k_csrS mb rb Y i3.ok 835 W hW)
 have e2 : (xcsrE Y 835).1 = Y.c.mtval := rfl
 rw [e2] at C2
 generalize ((Y.c.mtval : Nat) : Int) = tv at C2
 have LD := hide1 (fun W hW => k_ldS mb rb hm2.inv hm2.qt o2 (leA 536871111 4) (by have := HO.out; rw [leA_size]; exact this) W hW)
 clear r1 yl y16 y0 mc i3 e1 e2
 clear hm2 hk2 MP HO RD
 go_wp2_with fail
 refine (v_Le4 536871111 _).mono ?_
 exact zq395
set_option maxRecDepth 100000 in
theorem k_cross_ol (a b c L : Int) (w : World) (A V i1 i0 : Nat) (en : bits .or .i64 (bits .and .i64 a 4290768896) 4094 = (A : Int)) (eu : bits .and .i64 b 4294967295 = (V : Int)) (hV : V < 4294967296) (hA : A <= 4290772990) (qo : A % 4096 = 4094) (qe : A / 4194304 % 2 = 0) (q1 : A / 4194304 = i1) (q0 : A / 4096 % 1024 = i0) (T1 : Int.tmod c 2 = L) (T2 : IntKind.i64.wrap L = L) (T3 : wrap64 L = L) (T4 : (L == 0) = false) (hi : i0 = 1023) :
 CK 46 #[.int .i64 a, .int .i64 b, .int .i64 c] (.bool true) w := by
 have b1 : i1 < 1023 := by omega
 have b0 : i0 < 1024 := by omega
 obtain ⟨A2, hA2⟩ := zn1 (A + 2)
 obtain ⟨k0, hk0⟩ := zn1 (A2 / 4096 % 1024)
 obtain ⟨o2, ho2⟩ := zn1 (8192 + k0 * 4)
 obtain ⟨a12, ha12⟩ := zn1 (A / 4096)
 obtain ⟨a13, ha13⟩ := zn1 (A2 / 4096)
 have MP := hide1 (fun s (hC : Byt.asmD s.data.toList = (croC, 0, 0)) W => k_mapperS croC (by decide) s hC A V (by omega) hV 536872961 536874183 i1 i0 4092 536872961 536874183 q1 q0 (by decide) rfl rfl W)
 have f0 : wrap64 ((A : Int) + 2) = (A2 : Int) := zq7
 have f3 : (A : Int) / 4096 = (a12 : Int) := by omega
 have f4 : bits .and .i64 (a12 : Int) 1023 = (i0 : Int) := by
  have := and_low a12 (by omega) 10 1023 (by decide) rfl
  rw [show a12 % 2 ^ 10 = i0 by omega] at this
  exact this
 have g3 : (A2 : Int) / 4096 = (a13 : Int) := by omega
 have g4 : bits .and .i64 (a13 : Int) 1023 = (k0 : Int) := by
  have := and_low a13 (by omega) 10 1023 (by decide) rfl
  rw [show a13 % 2 ^ 10 = k0 by omega] at this
  exact this
 have f5 : wrap64 (8192 + (k0 : Int) * 4) = (o2 : Int) := zq7
 have f5' : wrap64 ((k0 : Int) * 4) = (k0 : Int) * 4 := zq7
 have y : ((i0 : Int) == 1023) = true := by rw [hi]; rfl
 have y2 : ((i0 : Int) != 1023) = false := by rw [hi]; rfl
 have v5 : bits .and .i64 (A2 : Int) 4294967295 = (A2 : Int) := by rw [mask_nat]; omega
 have RD : Hid (∀ X R, Qt X R (List.replicate 32 0) 0 csr0 -> In croC R i1 i0 4092 536872961 536874183 V A -> ∃ Y, (runG 20 0 X).2 = Y /\ Y.b.ram.length = 16384 /\ ldN ((Y.b.ram.drop 16380).take 4) = 0 /\ ldN ((Y.b.ram.drop 0).take 4) = 3991 /\ Y.c.mcause = 15 /\ Y.c.mtval = A2) := hide1 (fun X R h0 hr => by
  have r := cros_no h0 hr.i (fun B S e1 e2 e3 => cro_wk2 (hr.next (by omega)) (by omega) B S e1) hr.by' (by omega) q1 q0 qo
  rw [show (A + 2) % 4294967296 = A2 by omega] at r
  exact r)
 have HO : Hid (o2 + 4 <= 16384) := hide1 (by omega)
 clear b1 b0 hV hA qo qe q1 q0 hi hA2 hk0 ho2 ha12 ha13
 go_enter func46, ntmps46
 go_wp2_with fail
 refine (MP.out _ (by kernel_rfl) _).mono ?_
 rintro o w2 ⟨⟨mb, rb, X, R, rfl, hm2⟩, hk2⟩
 have l1 := hm2.l1
 have l2 := hm2.l2
 have M2 := hide1 hm2.xat
 have K2 := hide1 hk2
 obtain ⟨Y, r1, yl, y16, y0, mc, mt⟩ := RD.out X R hm2.qt hm2.ram
 have RN := hide1 (fun W hW => x_Run mb rb X hm2.inv 20 (by decide) W (hide1 hW))
 have i3 := run_inv 20 0 X hm2.inv
 rw [r1] at RN i3
 generalize (runG 20 0 X).1 = r20 at RN
 have A1 := hide1 (fun W hW => k_wordAtS mb rb Y i3 16380 zq541 _ y16 W hW)
 have A0 := hide1 (fun W hW => k_wordAtS mb rb Y i3 0 zq541 _ y0 W hW)
 have C1 := hide1 (fun W hW => k_csrS mb rb Y i3.ok 834 W hW)
 have e1 : (xcsrE Y 834).1 = Y.c.mcause := rfl
 rw [e1, mc] at C1
 replace C1 : Hid (∀ W, XAt W mb rb Y -> CK 95 #[.pointer (some ⟨mb, 0, none⟩), .int .i64 834] (.int .i64 15) W) := C1
 have C2 := hide1 (fun W hW => k_csrS mb rb Y i3.ok 835 W hW)
 have e2 : (xcsrE Y 835).1 = Y.c.mtval := rfl
 rw [e2, mt] at C2
 clear r1 yl y16 y0 mc mt i3 e1 e2
 clear hm2 hk2 MP HO RD
 go_wp2_with fail
 refine (v_Le4 0 _).mono ?_
 rintro o w3 ⟨rfl, hk⟩
 have M3 := hide1 (M2.out.kept (Below.kept hk []))
 have K3 := hide1 (K2.out.trans (Below.kept hk []))
 clear hk M2 K2
 go_wp2_with fail
 refine (RN.out _ M3.out).mono ?_
 rintro o w5 ⟨rfl, hx, hk⟩
 have M5 := hide1 hx
 have K5 := hide1 (kept_new K3.out hk l1 l2)
 clear hx hk M3 K3 RN
 exact zq396
set_option maxRecDepth 100000 in
theorem k_cross_on (a b c L : Int) (w : World) (A V i1 i0 : Nat) (en : bits .or .i64 (bits .and .i64 a 4290768896) 4094 = (A : Int)) (eu : bits .and .i64 b 4294967295 = (V : Int)) (hV : V < 4294967296) (hA : A <= 4290772990) (qo : A % 4096 = 4094) (qe : A / 4194304 % 2 = 0) (q1 : A / 4194304 = i1) (q0 : A / 4096 % 1024 = i0) (T1 : Int.tmod c 2 = L) (T2 : IntKind.i64.wrap L = L) (T3 : wrap64 L = L) (T4 : (L == 0) = false) (hi : ¬ i0 = 1023) :
 CK 46 #[.int .i64 a, .int .i64 b, .int .i64 c] (.bool true) w := by
 have b1 : i1 < 1023 := by omega
 have b0 : i0 < 1024 := by omega
 obtain ⟨A2, hA2⟩ := zn1 (A + 2)
 obtain ⟨k0, hk0⟩ := zn1 (A2 / 4096 % 1024)
 obtain ⟨o2, ho2⟩ := zn1 (8192 + k0 * 4)
 obtain ⟨a12, ha12⟩ := zn1 (A / 4096)
 obtain ⟨a13, ha13⟩ := zn1 (A2 / 4096)
 have MP := hide1 (fun s (hC : Byt.asmD s.data.toList = (croC, 0, 0)) W => k_mapperS croC (by decide) s hC A V (by omega) hV 536872961 536874183 i1 i0 4092 536872961 536874183 q1 q0 (by decide) rfl rfl W)
 have f0 : wrap64 ((A : Int) + 2) = (A2 : Int) := zq7
 have f3 : (A : Int) / 4096 = (a12 : Int) := by omega
 have f4 : bits .and .i64 (a12 : Int) 1023 = (i0 : Int) := by
  have := and_low a12 (by omega) 10 1023 (by decide) rfl
  rw [show a12 % 2 ^ 10 = i0 by omega] at this
  exact this
 have g3 : (A2 : Int) / 4096 = (a13 : Int) := by omega
 have g4 : bits .and .i64 (a13 : Int) 1023 = (k0 : Int) := by
  have := and_low a13 (by omega) 10 1023 (by decide) rfl
  rw [show a13 % 2 ^ 10 = k0 by omega] at this
  exact this
 have f5 : wrap64 (8192 + (k0 : Int) * 4) = (o2 : Int) := zq7
 have f5' : wrap64 ((k0 : Int) * 4) = (k0 : Int) * 4 := zq7
 have y : ((i0 : Int) == 1023) = false := by simp only [beq_eq_false_iff_ne, ne_eq]; omega
 have y2 : ((i0 : Int) != 1023) = true := by simp only [bne_iff_ne, ne_eq]; omega
 have v5 : bits .and .i64 (A2 : Int) 4294967295 = (A2 : Int) := by rw [mask_nat]; omega
 have RD : Hid (∀ X R, Qt X R (List.replicate 32 0) 0 csr0 -> In croC R i1 i0 4092 536872961 536874183 V A -> ∃ Y, (runG 20 0 (loadX X o2 (leA 0 4))).2 = Y /\ Y.b.ram.length = 16384 /\ ldN ((Y.b.ram.drop 16380).take 4) = 0 /\ ldN ((Y.b.ram.drop 0).take 4) = 3991 /\ Y.c.mcause = 15 /\ Y.c.mtval = A2) := hide1 (fun X R h0 hr => by
  have kk : k0 = i0 + 1 := by omega
  obtain ⟨n0, n1, n2⟩ := hr.more (by decide) k0 (by omega) (by omega) 0 0 rfl
  have h1 := qt_load h0 o2 (leA 0 4)
  rw [<- ho2] at n0 n1 n2
  have r := cros_no h1 n0 (fun B S e1 e2 e3 => cro_wk1 n1 (by omega) (by omega) B S e1 e2 e3) n2 (by omega) q1 q0 qo
  rw [show (A + 2) % 4294967296 = A2 by omega] at r
  exact r)
 have HO : Hid (o2 + 4 <= 16384) := hide1 (by omega)
 clear b1 b0 hV hA qo qe q1 q0 hi hA2 hk0 ho2 ha12 ha13
 go_enter func46, ntmps46
 go_wp2_with fail
 refine (MP.out _ (by kernel_rfl) _).mono ?_
 rintro o w2 ⟨⟨mb, rb, X, R, rfl, hm2⟩, hk2⟩
 have l1 := hm2.l1
 have l2 := hm2.l2
 have M2 := hide1 hm2.xat
 have K2 := hide1 hk2
 obtain ⟨Y, r1, yl, y16, y0, mc, mt⟩ := RD.out X R hm2.qt hm2.ram
 have RN := hide1 (fun W hW => x_Run mb rb (loadX X o2 (leA 0 4)) (load_inv hm2.inv o2 (leA 0 4)) 20 (by decide) W (hide1 hW))
 have i3 := run_inv 20 0 (loadX X o2 (leA 0 4)) (load_inv hm2.inv o2 (leA 0 4))
 rw [r1] at RN i3
 generalize (runG 20 0 (loadX X o2 (leA 0 4))).1 = r20 at RN
 have A1 := hide1 (fun W hW => k_wordAtS mb rb Y i3 16380 zq541 _ y16 W hW)
 have A0 := hide1 (fun W hW => k_wordAtS mb rb Y i3 0 zq541 _ y0 W hW)
 have C1 := hide1 (fun W hW => k_csrS mb rb Y i3.ok 834 W hW)
 have e1 : (xcsrE Y 834).1 = Y.c.mcause := rfl
 rw [e1, mc] at C1
 replace C1 : Hid (∀ W, XAt W mb rb Y -> CK 95 #[.pointer (some ⟨mb, 0, none⟩), .int .i64 834] (.int .i64 15) W) := C1
 have C2 := hide1 (fun W hW => k_csrS mb rb Y i3.ok 835 W hW)
 have e2 : (xcsrE Y 835).1 = Y.c.mtval := rfl
 rw [e2, mt] at C2
 have LD := hide1 (fun W hW => k_ldS mb rb hm2.inv hm2.qt o2 (leA 0 4) (by have := HO.out; rw [leA_size]; exact this) W hW)
 clear r1 yl y16 y0 mc mt i3 e1 e2
 clear hm2 hk2 MP HO RD
 go_wp2_with fail
 refine (v_Le4 0 _).mono ?_
 exact zq395
theorem k_crossesS (a b c : Int) (w : World) : CK 46 #[.int .i64 a, .int .i64 b, .int .i64 c] (.bool true) w := by
 obtain ⟨A, h1, h2, h3, h4⟩ := vx_any a
 obtain ⟨V, u1, eu⟩ := v_any b
 have t1 : -1 <= Int.tmod c 2 /\ Int.tmod c 2 <= 1 := by
  have := Int.tmod_lt_of_pos c (show (0 : Int) < 2 by decide)
  have h := Int.lt_tmod_of_pos c (show (0 : Int) < 2 by decide)
  omega
 have t2 : IntKind.i64.wrap (Int.tmod c 2) = Int.tmod c 2 := zq116
 have t3 : wrap64 (Int.tmod c 2) = Int.tmod c 2 := zq7
 cases t4 : (Int.tmod c 2 == 0) <;> by_cases hi : A / 4096 % 1024 = 1023
 . exact k_cross_ol a b c _ w A V _ _ h4 eu (by omega) h1 h2 h3 rfl rfl rfl t2 t3 t4 hi
 . exact k_cross_on a b c _ w A V _ _ h4 eu (by omega) h1 h2 h3 rfl rfl rfl t2 t3 t4 hi
 . exact k_cross_el a b c _ w A V _ _ h4 eu (by omega) h1 h2 h3 rfl rfl rfl t2 t3 t4 hi
 . exact k_cross_en a b c _ w A V _ _ h4 eu (by omega) h1 h2 h3 rfl rfl rfl t2 t3 t4 hi
end
end Go.Proofs.YtmlgonbhoknoiabGreatDoor
