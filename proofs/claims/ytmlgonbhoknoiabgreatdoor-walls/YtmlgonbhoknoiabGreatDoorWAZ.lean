import Derived.Test.YtmlgonbhoknoiabGreatDoorWAR
import Derived.Test.YtmlgonbhoknoiabGreatDoorWAV
import Derived.Test.YtmlgonbhoknoiabGreatDoorWAW
import Derived.Test.YtmlgonbhoknoiabGreatDoorWAY
set_option maxHeartbeats 8000000
set_option linter.all false
namespace Go.Proofs.YtmlgonbhoknoiabGreatDoor
open Go.RowKit Go.Proofs.Tryz
section
attribute [local go_sem ↓] Go.wp_at_zero Go.wp_at_succ
set_option maxRecDepth 100000 in
theorem k_crosses (a b c : Int) (w : World) : Calls prog 46 #[.int .i64 a, .int .i64 b, .int .i64 c] w fun o w' => BoolR o /\ Kept [] w w' := by
 go_enter func46, ntmps46
 go_wp2_with fail
 refine (k_mapper _ _ _ _ _ w).mono ?_
 rintro o w2 ⟨rfl | ⟨mb, rb, l1, l2, rfl, hm⟩, hk⟩
 . exact zq383
 have M2 := hide1 hm
 have K2 := hide1 hk
 clear hm hk
 go_wp2_with fail
 all_goals
  refine (u_Le4' _ _).mono ?_
  rintro o w3 ⟨⟨A, hA, rfl⟩, hk⟩
  have M3 := hide1 (M2.out.kept hk)
  have K3 := hide1 (K2.out.trans hk)
  clear hk M2 K2 hA
  go_wp2_with (go_at_call 23; refine (m_Load _ _ _ _ _ w3 M3.out).mono ?_; rintro o w4 ⟨⟨e, rfl⟩, hm, hk⟩; have M4 := hide1 hm; have K4 := hide1 (kept_new K3.out hk l1 l2); clear hm hk)
  all_goals first
   | (go_ret; exact ⟨⟨_, rfl⟩, K3.out⟩)
   | (first
       | (refine (m_Run mb rb _ 20 _ M4.out).mono ?_
          rintro o w5 ⟨⟨v, er, q0, q1, rfl⟩, hm, hk⟩
          have M5 := hide1 hm
          have K5 := hide1 (kept_new K4.out hk l1 l2)
          clear hm hk)
       | (refine (m_Run mb rb _ 20 _ M3.out).mono ?_
          rintro o w5 ⟨⟨v, er, q0, q1, rfl⟩, hm, hk⟩
          have M5 := hide1 hm
          have K5 := hide1 (kept_new K3.out hk l1 l2)
          clear hm hk)
      go_wp2_with fail
      refine (k_wordAt mb rb 16384 _ (by omega) (by omega) w5 M5).mono ?_
      rintro o w6 ⟨⟨v3, rfl⟩, hk⟩
      have M6 := hide1 (M5.out.kept hk)
      have K6 := hide1 (K5.out.trans hk)
      clear hk
      go_wp2_with fail
      refine (k_wordAt mb rb 16384 _ (by omega) (by omega) w6 M6).mono ?_
      rintro o w7 ⟨⟨v4, rfl⟩, hk⟩
      have M7 := hide1 (M6.out.kept hk)
      have K7 := hide1 (K6.out.trans hk)
      clear hk
      go_wp2_with fail
      refine (k_csr mb rb _ w7 (hide1 M7.out.m)).mono ?_
      rintro o w8 ⟨⟨v5, p2, p3, rfl⟩, hk⟩
      have M8 := hide1 (M7.out.kept hk)
      have K8 := hide1 (K7.out.trans hk)
      clear hk
      go_wp2_with fail
      refine (k_csr mb rb _ w8 (hide1 M8.out.m)).mono ?_
      rintro o w9 ⟨⟨v6, p4, p5, rfl⟩, hk⟩
      have K9 := hide1 (K8.out.trans hk)
      clear hk
      go_wp2_with fail
      all_goals
       go_ret
       exact ⟨⟨_, rfl⟩, K9.out⟩)
def KRes (k : Int) (e : Ending) : Prop := ∃ r, e = .returned (.bool r) /\ Hid (¬ (k = 17 \/ (33 <= k /\ k <= 43)) -> r = true)
set_option maxRecDepth 100000 in
theorem k_lab33 (a b c : Int) (s : ByteArray) (hx : LOk ⟨33, a, b, c, s⟩) (w : World) (ht : Hid (Tb w)) : Calls prog 27 #[.agg #[.int .i64 33, .int .i64 a, .int .i64 b, .int .i64 c, .string s]] w fun e w' => KRes 33 e /\ Kept [] w w' := by
 have k0 : Kept [] w (w.alloc (.cells #[.int .i64 33, .int .i64 a, .int .i64 b, .int .i64 c, .string s] 36)) := zq136
 have T0 : Hid (Tb (w.alloc (.cells #[.int .i64 33, .int .i64 a, .int .i64 b, .int .i64 c, .string s] 36))) := zq139
 have a0 := hx.a0
 have a1 := hx.a1
 have c0 := hx.c0
 have c1 := hx.c1
 have s1 := hx.s1
 dsimp only at a0 a1 c0 c1 s1
 have K0 := hide1 k0
 clear k0 hx ht
 go_enter func27, ntmps27
 go_wp2_with fail
 refine (k_maths a b _).mono ?_
 exact zq386
set_option maxRecDepth 100000 in
theorem k_lab34 (a b c : Int) (s : ByteArray) (hx : LOk ⟨34, a, b, c, s⟩) (w : World) (ht : Hid (Tb w)) : Calls prog 27 #[.agg #[.int .i64 34, .int .i64 a, .int .i64 b, .int .i64 c, .string s]] w fun e w' => KRes 34 e /\ Kept [] w w' := by
 have k0 : Kept [] w (w.alloc (.cells #[.int .i64 34, .int .i64 a, .int .i64 b, .int .i64 c, .string s] 36)) := zq136
 have T0 : Hid (Tb (w.alloc (.cells #[.int .i64 34, .int .i64 a, .int .i64 b, .int .i64 c, .string s] 36))) := zq139
 have a0 := hx.a0
 have a1 := hx.a1
 have c0 := hx.c0
 have c1 := hx.c1
 have s1 := hx.s1
 dsimp only at a0 a1 c0 c1 s1
 have K0 := hide1 k0
 clear k0 hx ht
 go_enter func27, ntmps27
 go_wp2_with fail
 refine (k_echo s s1 _).mono ?_
 exact zq386
set_option maxRecDepth 100000 in
theorem k_lab35 (a b c : Int) (s : ByteArray) (hx : LOk ⟨35, a, b, c, s⟩) (w : World) (ht : Hid (Tb w)) : Calls prog 27 #[.agg #[.int .i64 35, .int .i64 a, .int .i64 b, .int .i64 c, .string s]] w fun e w' => KRes 35 e /\ Kept [] w w' := by
 have k0 : Kept [] w (w.alloc (.cells #[.int .i64 35, .int .i64 a, .int .i64 b, .int .i64 c, .string s] 36)) := zq136
 have T0 : Hid (Tb (w.alloc (.cells #[.int .i64 35, .int .i64 a, .int .i64 b, .int .i64 c, .string s] 36))) := zq139
 have a0 := hx.a0
 have a1 := hx.a1
 have c0 := hx.c0
 have c1 := hx.c1
 have s1 := hx.s1
 dsimp only at a0 a1 c0 c1 s1
 have K0 := hide1 k0
 clear k0 hx ht
 go_enter func27, ntmps27
 go_wp2_with fail
 refine (k_alarm a b _).mono ?_
 exact zq386
set_option maxRecDepth 100000 in
theorem k_lab36 (a b c : Int) (s : ByteArray) (hx : LOk ⟨36, a, b, c, s⟩) (w : World) (ht : Hid (Tb w)) : Calls prog 27 #[.agg #[.int .i64 36, .int .i64 a, .int .i64 b, .int .i64 c, .string s]] w fun e w' => KRes 36 e /\ Kept [] w w' := by
 have k0 : Kept [] w (w.alloc (.cells #[.int .i64 36, .int .i64 a, .int .i64 b, .int .i64 c, .string s] 36)) := zq136
 have T0 : Hid (Tb (w.alloc (.cells #[.int .i64 36, .int .i64 a, .int .i64 b, .int .i64 c, .string s] 36))) := zq139
 have a0 := hx.a0
 have a1 := hx.a1
 have c0 := hx.c0
 have c1 := hx.c1
 have s1 := hx.s1
 dsimp only at a0 a1 c0 c1 s1
 have K0 := hide1 k0
 clear k0 hx ht
 go_enter func27, ntmps27
 go_wp2_with fail
 refine (k_self a _).mono ?_
 exact zq386
set_option maxRecDepth 100000 in
theorem k_lab39 (a b c : Int) (s : ByteArray) (hx : LOk ⟨39, a, b, c, s⟩) (w : World) (ht : Hid (Tb w)) : Calls prog 27 #[.agg #[.int .i64 39, .int .i64 a, .int .i64 b, .int .i64 c, .string s]] w fun e w' => KRes 39 e /\ Kept [] w w' := by
 have k0 : Kept [] w (w.alloc (.cells #[.int .i64 39, .int .i64 a, .int .i64 b, .int .i64 c, .string s] 36)) := zq136
 have T0 : Hid (Tb (w.alloc (.cells #[.int .i64 39, .int .i64 a, .int .i64 b, .int .i64 c, .string s] 36))) := zq139
 have a0 := hx.a0
 have a1 := hx.a1
 have c0 := hx.c0
 have c1 := hx.c1
 have s1 := hx.s1
 dsimp only at a0 a1 c0 c1 s1
 have K0 := hide1 k0
 clear k0 hx ht
 go_enter func27, ntmps27
 go_wp2_with fail
 refine (k_maps a b c c0 c1 _).mono ?_
 exact zq386
set_option maxRecDepth 100000 in
theorem k_lab40 (a b c : Int) (s : ByteArray) (hx : LOk ⟨40, a, b, c, s⟩) (w : World) (ht : Hid (Tb w)) : Calls prog 27 #[.agg #[.int .i64 40, .int .i64 a, .int .i64 b, .int .i64 c, .string s]] w fun e w' => KRes 40 e /\ Kept [] w w' := by
 have k0 : Kept [] w (w.alloc (.cells #[.int .i64 40, .int .i64 a, .int .i64 b, .int .i64 c, .string s] 36)) := zq136
 have T0 : Hid (Tb (w.alloc (.cells #[.int .i64 40, .int .i64 a, .int .i64 b, .int .i64 c, .string s] 36))) := zq139
 have a0 := hx.a0
 have a1 := hx.a1
 have c0 := hx.c0
 have c1 := hx.c1
 have s1 := hx.s1
 dsimp only at a0 a1 c0 c1 s1
 have K0 := hide1 k0
 clear k0 hx ht
 go_enter func27, ntmps27
 go_wp2_with fail
 refine (k_crosses a b c _).mono ?_
 exact zq386
set_option maxRecDepth 100000 in
theorem k_lab41 (a b c : Int) (s : ByteArray) (hx : LOk ⟨41, a, b, c, s⟩) (w : World) (ht : Hid (Tb w)) : Calls prog 27 #[.agg #[.int .i64 41, .int .i64 a, .int .i64 b, .int .i64 c, .string s]] w fun e w' => KRes 41 e /\ Kept [] w w' := by
 have k0 : Kept [] w (w.alloc (.cells #[.int .i64 41, .int .i64 a, .int .i64 b, .int .i64 c, .string s] 36)) := zq136
 have T0 : Hid (Tb (w.alloc (.cells #[.int .i64 41, .int .i64 a, .int .i64 b, .int .i64 c, .string s] 36))) := zq139
 have a0 := hx.a0
 have a1 := hx.a1
 have c0 := hx.c0
 have c1 := hx.c1
 have s1 := hx.s1
 dsimp only at a0 a1 c0 c1 s1
 have K0 := hide1 k0
 clear k0 hx ht
 go_enter func27, ntmps27
 go_wp2_with fail
 refine (k_loads a b _).mono ?_
 exact zq386
set_option maxRecDepth 100000 in
theorem k_lab42 (a b c : Int) (s : ByteArray) (hx : LOk ⟨42, a, b, c, s⟩) (w : World) (ht : Hid (Tb w)) : Calls prog 27 #[.agg #[.int .i64 42, .int .i64 a, .int .i64 b, .int .i64 c, .string s]] w fun e w' => KRes 42 e /\ Kept [] w w' := by
 have k0 : Kept [] w (w.alloc (.cells #[.int .i64 42, .int .i64 a, .int .i64 b, .int .i64 c, .string s] 36)) := zq136
 have T0 : Hid (Tb (w.alloc (.cells #[.int .i64 42, .int .i64 a, .int .i64 b, .int .i64 c, .string s] 36))) := zq139
 have a0 := hx.a0
 have a1 := hx.a1
 have c0 := hx.c0
 have c1 := hx.c1
 have s1 := hx.s1
 dsimp only at a0 a1 c0 c1 s1
 have K0 := hide1 k0
 clear k0 hx ht
 go_enter func27, ntmps27
 go_wp2_with fail
 refine (k_branches a b _).mono ?_
 exact zq386
set_option maxRecDepth 100000 in
theorem k_lab43 (a b c : Int) (s : ByteArray) (hx : LOk ⟨43, a, b, c, s⟩) (w : World) (ht : Hid (Tb w)) : Calls prog 27 #[.agg #[.int .i64 43, .int .i64 a, .int .i64 b, .int .i64 c, .string s]] w fun e w' => KRes 43 e /\ Kept [] w w' := by
 have k0 : Kept [] w (w.alloc (.cells #[.int .i64 43, .int .i64 a, .int .i64 b, .int .i64 c, .string s] 36)) := zq136
 have T0 : Hid (Tb (w.alloc (.cells #[.int .i64 43, .int .i64 a, .int .i64 b, .int .i64 c, .string s] 36))) := zq139
 have a0 := hx.a0
 have a1 := hx.a1
 have c0 := hx.c0
 have c1 := hx.c1
 have s1 := hx.s1
 dsimp only at a0 a1 c0 c1 s1
 have K0 := hide1 k0
 clear k0 hx ht
 go_enter func27, ntmps27
 go_wp2_with fail
 refine (k_amos a b _).mono ?_
 exact zq386
set_option maxRecDepth 100000 in
theorem k_lab38 (a b c : Int) (s : ByteArray) (hx : LOk ⟨38, a, b, c, s⟩) (w : World) (ht : Hid (Tb w)) : Calls prog 27 #[.agg #[.int .i64 38, .int .i64 a, .int .i64 b, .int .i64 c, .string s]] w fun e w' => KRes 38 e /\ Kept [] w w' := by
 have k0 : Kept [] w (w.alloc (.cells #[.int .i64 38, .int .i64 a, .int .i64 b, .int .i64 c, .string s] 36)) := zq136
 have T0 : Hid (Tb (w.alloc (.cells #[.int .i64 38, .int .i64 a, .int .i64 b, .int .i64 c, .string s] 36))) := zq139
 have a0 := hx.a0
 have a1 := hx.a1
 have c0 := hx.c0
 have c1 := hx.c1
 have s1 := hx.s1
 dsimp only at a0 a1 c0 c1 s1
 have K0 := hide1 k0
 clear k0 hx ht
 go_enter func27, ntmps27
 go_wp2_with fail
 refine (k_pair a b _).mono ?_
 exact zq386
set_option maxRecDepth 100000 in
theorem k_lab17 (a b c : Int) (s : ByteArray) (hx : LOk ⟨17, a, b, c, s⟩) (w : World) (ht : Hid (Tb w)) : Calls prog 27 #[.agg #[.int .i64 17, .int .i64 a, .int .i64 b, .int .i64 c, .string s]] w fun e w' => KRes 17 e /\ Kept [] w w' := by
 have k0 : Kept [] w (w.alloc (.cells #[.int .i64 17, .int .i64 a, .int .i64 b, .int .i64 c, .string s] 36)) := zq136
 have T0 : Hid (Tb (w.alloc (.cells #[.int .i64 17, .int .i64 a, .int .i64 b, .int .i64 c, .string s] 36))) := zq139
 have a0 := hx.a0
 have a1 := hx.a1
 have c0 := hx.c0
 have c1 := hx.c1
 have s1 := hx.s1
 dsimp only at a0 a1 c0 c1 s1
 have K0 := hide1 k0
 clear k0 hx ht
 go_enter func27, ntmps27
 go_wp2_with fail
 refine (k_wordW b _ T0).mono ?_
 rintro e w1 ⟨⟨r, rfl⟩, hb⟩
 have K1 := hide1 (K0.out.trans (Below.k hb))
 clear hb K0 T0
 exact zq387
set_option maxRecDepth 100000 in
theorem k_lab37 (a b c : Int) (s : ByteArray) (hx : LOk ⟨37, a, b, c, s⟩) (w : World) (ht : Hid (Tb w)) : Calls prog 27 #[.agg #[.int .i64 37, .int .i64 a, .int .i64 b, .int .i64 c, .string s]] w fun e w' => KRes 37 e /\ Kept [] w w' := by
 have k0 : Kept [] w (w.alloc (.cells #[.int .i64 37, .int .i64 a, .int .i64 b, .int .i64 c, .string s] 36)) := zq136
 have T0 : Hid (Tb (w.alloc (.cells #[.int .i64 37, .int .i64 a, .int .i64 b, .int .i64 c, .string s] 36))) := zq139
 have a0 := hx.a0
 have a1 := hx.a1
 have c0 := hx.c0
 have c1 := hx.c1
 have s1 := hx.s1
 dsimp only at a0 a1 c0 c1 s1
 have K0 := hide1 k0
 clear k0 hx ht
 go_enter func27, ntmps27
 go_wp2_with fail
 refine (k_pick a a0 a1 96 (by decide) (by decide) _).mono ?_
 rintro e w1 ⟨⟨j, hj, rfl⟩, hw1⟩
 have T1 : Hid (Tb w1) := by rw [hw1]; exact T0
 have K1 : Hid (Kept [] w w1) := by rw [hw1]; exact K0
 clear hw1 T0 K0
 go_wp2_with fail
 refine (k_goldW j hj _ T1).mono ?_
 rintro e w2 ⟨⟨r, rfl⟩, hb⟩
 have K2 := hide1 (K1.out.trans (Below.k hb))
 clear hb K1 T1
 go_wp2_with fail
 go_ret
 exact ⟨⟨r, rfl, hide1 (by omega)⟩, K2.out⟩
set_option maxRecDepth 100000 in
theorem k_labN (k a b c : Int) (s : ByteArray) (hk : ¬ (k = 17 \/ (33 <= k /\ k <= 43))) (w : World) : Calls prog 27 #[.agg #[.int .i64 k, .int .i64 a, .int .i64 b, .int .i64 c, .string s]] w fun e w' => KRes k e /\ Kept [] w w' := by
 have K0 : Hid (Kept [] w (w.alloc (.cells #[.int .i64 k, .int .i64 a, .int .i64 b, .int .i64 c, .string s] 36))) := hide1 ((Kept.refl _ _).alloc _)
 have q17 : (k == 17) = false := by simp; omega
 have q33 : (k == 33) = false := by simp; omega
 have q34 : (k == 34) = false := by simp; omega
 have q35 : (k == 35) = false := by simp; omega
 have q36 : (k == 36) = false := by simp; omega
 have q37 : (k == 37) = false := by simp; omega
 have q38 : (k == 38) = false := by simp; omega
 have q39 : (k == 39) = false := by simp; omega
 have q40 : (k == 40) = false := by simp; omega
 have q41 : (k == 41) = false := by simp; omega
 have q42 : (k == 42) = false := by simp; omega
 have q43 : (k == 43) = false := by simp; omega
 clear hk
 go_enter func27, ntmps27
 go_wp2_with fail
 go_ret
 exact ⟨⟨true, rfl, hide1 (fun _ => rfl)⟩, K0.out⟩
theorem k_lab (x : LOp) (hx : LOk x) (w : World) (ht : Hid (Tb w)) : Calls prog 27 #[x.v] w fun e w' => KRes x.k e /\ Kept [] w w' := by
 obtain ⟨k, a, b, c, s⟩ := x
 unfold LOp.v
 simp only
 by_cases h : k = 17 \/ (33 <= k /\ k <= 43)
 . have : k = 17 \/ k = 33 \/ k = 34 \/ k = 35 \/ k = 36 \/ k = 37 \/ k = 38 \/ k = 39 \/ k = 40 \/ k = 41 \/ k = 42 \/ k = 43 := by omega
   rcases this with rfl | rfl | rfl | rfl | rfl | rfl | rfl | rfl | rfl | rfl | rfl | rfl
   . exact k_lab17 a b c s hx w ht
   . exact k_lab33 a b c s hx w ht
   . exact k_lab34 a b c s hx w ht
   . exact k_lab35 a b c s hx w ht
   . exact k_lab36 a b c s hx w ht
   . exact k_lab37 a b c s hx w ht
   . exact k_lab38 a b c s hx w ht
   . exact k_lab39 a b c s hx w ht
   . exact k_lab40 a b c s hx w ht
   . exact k_lab41 a b c s hx w ht
   . exact k_lab42 a b c s hx w ht
   . exact k_lab43 a b c s hx w ht
 . exact k_labN k a b c s h w
def KR (k : Int) (e : Ending) : Prop := ∃ r, e = .returned (.bool r) /\ Hid (k = 1 \/ k = 9 \/ k = 32 -> r = true)
theorem kr_true (k : Int) : KR k (.returned (.bool true)) := ⟨true, rfl, hide1 (fun _ => rfl)⟩
set_option maxRecDepth 100000 in
theorem k_step1 (wb n : Nat) (hn : n < 1073741824) (a b c : Int) (s : ByteArray) (w : World) (hw : Hid (KwH w wb n)) :
 Calls prog 17 #[.pointer (some ⟨wb, 0, none⟩), .agg #[.int .i64 1, .int .i64 a, .int .i64 b, .int .i64 c, .string s]] w fun e w' => e = .returned (.bool true) /\ KwH w' wb (n + 1) /\ Below wb w w' := by
 have k0 : Kept [] w (w.alloc (.cells #[.int .i64 1, .int .i64 a, .int .i64 b, .int .i64 c, .string s] 36)) := zq136
 have ob0 := BoxF.new w [.int .i64 1, .int .i64 a, .int .i64 b, .int .i64 c, .string s] 36
 have l0 := hw.out.lt
 by_cases hx : 0 <= b /\ b <= 65536
 . obtain ⟨z, rfl⟩ : ∃ z : Nat, b = z := ⟨b.toNat, by omega⟩
   have hz : z <= 65536 := by omega
   obtain ⟨W0, hW0⟩ := zn1 (w.alloc (.cells #[.int .i64 1, .int .i64 a, .int .i64 (z : Int), .int .i64 c, .string s] 36))
   rw [<- hW0] at k0 ob0
   obtain ⟨P, u, hL', hP⟩ := hw.out
   have nbox : ¬ u.ownBlock = some w.heap.size := fun e => by have := (hL'.ox.lt _ e).2; omega
   have hL := hL'.keep k0
   have N := hide1 (m_New z hz W0)
   have lW := k0.size
   have HL := hide1 hL
   have q0 : decide (0 <= (z : Int)) = true := by simp
   have q1 : decide ((z : Int) <= 65536) = true := by simp; omega
   have K0 := hide1 k0
   have lb := hL.lt
   have hs0 : w.heap.size < W0.heap.size := by rw [hW0]; simp
   clear hx hw k0 hL
   go_enter func17, ntmps17
   go_wp2_with fail
   rw [<- hW0]
   clear hW0
   refine N.out.mono ?_
   rintro o w1 ⟨rfl, hm1, hk1⟩
   have J := hide1 (k_join wb P u ⟨W0.heap.size + 1, W0.heap.size, z⟩ W0.heap.size zq517 lb (fun k hk => (HL.out.ox.lt k hk).2) (fun a ha => ⟨((HL.out.pr a ha).m.lt).1, ((HL.out.pr a ha).m.lt).2⟩) (by omega) w1 (hide1 (HL.out.keep hk1)) (hide1 hm1))
   have ob1 := ob0.kept hk1
   have B1 : Hid (Below wb w w1) := hide1 (kept_below (K0.out.trans hk1) (by simp) (by omega))
   have nob : ¬ w.heap.size ∈ wb :: u.ownBlock.toList := by
    intro q
    simp at q
    rcases q with e | e
    . omega
    . exact nbox e
   have nge : ∀ k ∈ wb :: u.ownBlock.toList, wb <= k := by
    intro k q
    simp at q
    rcases q with e | e
    . omega
    . have := (HL.out.ox.lt k e).1; omega
   have lb1 : wb < w1.heap.size := Nat.lt_of_lt_of_le lb hk1.size
   clear N hm1 hk1 HL ob0 K0
   go_wp2_with fail
   refine J.out.mono ?_
   rintro o w2 ⟨rfl, hl2, hb2⟩
   have ob2 := ob1.more hb2 nob
   have e2 := ob2.cell 2 _ rfl
   have B2 : Hid (Below wb w w2) := hide1 (B1.out.trans (kept_below hb2 nge (Nat.le_of_lt lb1)))
   have L2 := hide1 (hl2.mono (show P.length + 1 <= n + 1 by omega))
   clear hl2 hb2 J B1
   go_wp2_with fail
   go_ret
   exact ⟨rfl, L2.out, B2.out⟩
 . have N := hide1 (x_New_no b (by omega) (w.alloc (.cells #[.int .i64 1, .int .i64 a, .int .i64 b, .int .i64 c, .string s] 36)))
   have L0 := hide1 ((hw.out.keep k0).mono (show n <= n + 1 by omega))
   have B0 : Hid (Below wb w (w.alloc (.cells #[.int .i64 1, .int .i64 a, .int .i64 b, .int .i64 c, .string s] 36))) := hide1 (kept_below k0 (by simp) (by omega))
   by_cases hb : 0 <= b
   . have q0 : decide (0 <= b) = true := by simp [hb]
     have q1 : decide (b <= 65536) = false := by simp; omega
     exact zq388
   . have q0 : decide (0 <= b) = false := by simp; omega
     exact zq388
def KPost (wb n : Nat) (k : Int) (w : World) (e : Ending) (w' : World) : Prop := KR k e /\ KwH w' wb (n + 1) /\ Below wb w w'
set_option maxRecDepth 100000 in
theorem k_step0 (wb n : Nat) (x : LOp) (hx : LOk x) (hk : ¬ x.k = 1) (w : World) (ht : Hid (Tb w)) (p : Option Addr) (cap : Nat) (c0 : w.cell? ⟨wb, 0, none⟩ = some (.slice p 0 cap)) (hw : Hid (KwH w wb n)) :
 Calls prog 17 #[.pointer (some ⟨wb, 0, none⟩), x.v] w fun e w' => KPost wb n x.k w e w' := by
 have k0 : Kept [] w (w.alloc (.cells #[.int .i64 x.k, .int .i64 x.a, .int .i64 x.b, .int .i64 x.c, .string x.s] 36)) := zq136
 have LA := hide1 (k_lab x hx _ (hide1 (ht.out.more ((Below.refl _ _).alloc (Nat.le_refl _) (.cells #[.int .i64 x.k, .int .i64 x.a, .int .i64 x.b, .int .i64 x.c, .string x.s] 36)))))
 have H0 := hide1 (hw.out.keep k0)
 have B0 : Hid (Below wb w (w.alloc (.cells #[.int .i64 x.k, .int .i64 x.a, .int .i64 x.b, .int .i64 x.c, .string x.s] 36))) := hide1 (kept_below k0 (by simp) (Nat.le_of_lt hw.out.lt))
 have hl := hw.out.lt
 have hl' : ¬ wb = w.heap.size := by omega
 have C0 := hide1 c0
 have K0 := hide1 k0
 obtain ⟨k, a, b, c, s⟩ := x
 unfold LOp.v at LA |-
 simp only at hk LA H0 B0 K0 |-
 have q1 : (k == 1) = false := by simp [hk]
 clear k0 hk ht hx hw c0
 go_enter func17, ntmps17
 go_wp2_with fail
 refine LA.out.mono ?_
 rintro o w1 ⟨⟨r, rfl, hr⟩, hk1⟩
 have L1 := hide1 ((H0.out.keep hk1).mono (show n <= n + 1 by omega))
 have B1 : Hid (Below wb w w1) := hide1 (B0.out.trans (kept_below hk1 (by simp) (Nat.le_of_lt H0.out.lt)))
 have d0 : w1.cell? ⟨wb, 0, none⟩ = some (.slice p 0 cap) := ((K0.out.trans hk1).cell hl (by simp)).trans C0.out
 have dl := L1.out.lt
 clear LA hk1 H0 B0 K0 C0
 cases r
 . go_wp2_with fail
   go_ret
   exact ⟨⟨false, rfl, hide1 (fun h => hr.out (by omega))⟩, L1.out, B1.out⟩
 . go_wp2_with fail
   go_ret
   exact ⟨kr_true k, L1.out, B1.out⟩
end
end Go.Proofs.YtmlgonbhoknoiabGreatDoor
