import Derived.Test.YtmlgonbhoknoiabGreatDoorYAM
set_option maxHeartbeats 8000000
set_option linter.all false
namespace Go.Proofs.YtmlgonbhoknoiabGreatDoor
open Go.RowKit Go.Proofs.Tryz
section
attribute [local go_sem ↓] Go.wp_at_zero Go.wp_at_succ
set_option maxRecDepth 100000 in
theorem k_crosses (a b c : Int) (w : World) : Calls prog 46 #[.int .i64 a, .int .i64 b, .int .i64 c] w fun o w' => BoolR o /\ Kept [] w w' := by
 go_enter func46, ntmps46
 go_wp2_with fail
 refine (k_mapper _ _ _ _ _ w).mono ?_
 rintro o w2 ⟨rfl | ⟨mb, rb, l1, l2, rfl, hm⟩, hk⟩
 . exact zq385
 have M2 := hide1 hm
 have K2 := hide1 hk
 clear hm hk
 go_wp2_with fail
 all_goals
  refine (u_Le4' _ _).mono ?_
  rintro o w3 ⟨⟨A, hA, rfl⟩, hk⟩
  have M3 := hide1 (M2.out.kept hk)
  have K3 := hide1 (K2.out.trans hk)
  clear hk M2 K2 hA
  go_wp2_with (go_at_call 23; refine (m_Load _ _ _ _ _ w3 M3.out).mono ?_; rintro o w4 ⟨⟨e, rfl⟩, hm, hk⟩; have M4 := hide1 hm; have K4 := hide1 (kept_new K3.out hk l1 l2); clear hm hk)
  all_goals first
   | (go_ret; exact ⟨⟨_, rfl⟩, K3.out⟩)
   | (first
       | (refine (m_Run mb rb _ 20 _ M4.out).mono ?_
          rintro o w5 ⟨⟨v, er, q0, q1, rfl⟩, hm, hk⟩
          have M5 := hide1 hm
          have K5 := hide1 (kept_new K4.out hk l1 l2)
          clear hm hk)
       | (refine (m_Run mb rb _ 20 _ M3.out).mono ?_
          rintro o w5 ⟨⟨v, er, q0, q1, rfl⟩, hm, hk⟩
          have M5 := hide1 hm
          have K5 := hide1 (kept_new K3.out hk l1 l2)
          clear hm hk)
      go_wp2_with fail
      refine (k_wordAt mb rb 16384 _ (by omega) (by omega) w5 M5).mono ?_
      rintro o w6 ⟨⟨v3, rfl⟩, hk⟩
      have M6 := hide1 (M5.out.kept hk)
      have K6 := hide1 (K5.out.trans hk)
      clear hk
      go_wp2_with fail
      refine (k_wordAt mb rb 16384 _ (by omega) (by omega) w6 M6).mono ?_
      rintro o w7 ⟨⟨v4, rfl⟩, hk⟩
      have M7 := hide1 (M6.out.kept hk)
      have K7 := hide1 (K6.out.trans hk)
      clear hk
      go_wp2_with fail
      refine (k_csr mb rb _ w7 (hide1 M7.out.m)).mono ?_
      rintro o w8 ⟨⟨v5, p2, p3, rfl⟩, hk⟩
      have M8 := hide1 (M7.out.kept hk)
      have K8 := hide1 (K7.out.trans hk)
      clear hk
      go_wp2_with fail
      refine (k_csr mb rb _ w8 (hide1 M8.out.m)).mono ?_
      rintro o w9 ⟨⟨v6, p4, p5, rfl⟩, hk⟩
      have K9 := hide1 (K8.out.trans hk)
      clear hk
      go_wp2_with fail
      all_goals
       go_ret
       exact ⟨⟨_, rfl⟩, K9.out⟩)
def KRes (k : Int) (e : Ending) : Prop := ∃ r, e = .returned (.bool r) /\ Hid (¬ (k = 17 \/ (33 <= k /\ k <= 43)) -> r = true)
set_option maxRecDepth 100000 in
theorem k_lab33 (a b c : Int) (s : ByteArray) (hx : LOk ⟨33, a, b, c, s⟩) (w : World) (ht : Hid (Tb w)) : Calls prog 27 #[.agg #[.int .i64 33, .int .i64 a, .int .i64 b, .int .i64 c, .string s]] w fun e w' => KRes 33 e /\ Kept [] w w' := by
 have k0 : Kept [] w (w.alloc (.cells #[.int .i64 33, .int .i64 a, .int .i64 b, .int .i64 c, .string s] 36)) := zq136
 have T0 : Hid (Tb (w.alloc (.cells #[.int .i64 33, .int .i64 a, .int .i64 b, .int .i64 c, .string s] 36))) := zq139
 have a0 := hx.a0
 have a1 := hx.a1
 have c0 := hx.c0
 have c1 := hx.c1
 have s1 := hx.s1
 dsimp only at a0 a1 c0 c1 s1
 have K0 := hide1 k0
 clear k0 hx ht
 go_enter func27, ntmps27
 go_wp2_with fail
 refine (k_maths a b _).mono ?_
 exact zq388
set_option maxRecDepth 100000 in
theorem k_lab34 (a b c : Int) (s : ByteArray) (hx : LOk ⟨34, a, b, c, s⟩) (w : World) (ht : Hid (Tb w)) : Calls prog 27 #[.agg #[.int .i64 34, .int .i64 a, .int .i64 b, .int .i64 c, .string s]] w fun e w' => KRes 34 e /\ Kept [] w w' := by
 have k0 : Kept [] w (w.alloc (.cells #[.int .i64 34, .int .i64 a, .int .i64 b, .int .i64 c, .string s] 36)) := zq136
 have T0 : Hid (Tb (w.alloc (.cells #[.int .i64 34, .int .i64 a, .int .i64 b, .int .i64 c, .string s] 36))) := zq139
 have a0 := hx.a0
 have a1 := hx.a1
 have c0 := hx.c0
 have c1 := hx.c1
 have s1 := hx.s1
 dsimp only at a0 a1 c0 c1 s1
 have K0 := hide1 k0
 clear k0 hx ht
 go_enter func27, ntmps27
 go_wp2_with fail
 refine (k_echo s s1 _).mono ?_
 exact zq388
set_option maxRecDepth 100000 in
theorem k_lab35 (a b c : Int) (s : ByteArray) (hx : LOk ⟨35, a, b, c, s⟩) (w : World) (ht : Hid (Tb w)) : Calls prog 27 #[.agg #[.int .i64 35, .int .i64 a, .int .i64 b, .int .i64 c, .string s]] w fun e w' => KRes 35 e /\ Kept [] w w' := by
 have k0 : Kept [] w (w.alloc (.cells #[.int .i64 35, .int .i64 a, .int .i64 b, .int .i64 c, .string s] 36)) := zq136
 have T0 : Hid (Tb (w.alloc (.cells #[.int .i64 35, .int .i64 a, .int .i64 b, .int .i64 c, .string s] 36))) := zq139
 have a0 := hx.a0
 have a1 := hx.a1
 have c0 := hx.c0
 have c1 := hx.c1
 have s1 := hx.s1
 dsimp only at a0 a1 c0 c1 s1
 have K0 := hide1 k0
 clear k0 hx ht
 go_enter func27, ntmps27
 go_wp2_with fail
 refine (k_alarm a b _).mono ?_
 exact zq388
set_option maxRecDepth 100000 in
theorem k_lab36 (a b c : Int) (s : ByteArray) (hx : LOk ⟨36, a, b, c, s⟩) (w : World) (ht : Hid (Tb w)) : Calls prog 27 #[.agg #[.int .i64 36, .int .i64 a, .int .i64 b, .int .i64 c, .string s]] w fun e w' => KRes 36 e /\ Kept [] w w' := by
 have k0 : Kept [] w (w.alloc (.cells #[.int .i64 36, .int .i64 a, .int .i64 b, .int .i64 c, .string s] 36)) := zq136
 have T0 : Hid (Tb (w.alloc (.cells #[.int .i64 36, .int .i64 a, .int .i64 b, .int .i64 c, .string s] 36))) := zq139
 have a0 := hx.a0
 have a1 := hx.a1
 have c0 := hx.c0
 have c1 := hx.c1
 have s1 := hx.s1
 dsimp only at a0 a1 c0 c1 s1
 have K0 := hide1 k0
 clear k0 hx ht
 go_enter func27, ntmps27
 go_wp2_with fail
 refine (k_self a _).mono ?_
 exact zq388
set_option maxRecDepth 100000 in
theorem k_lab39 (a b c : Int) (s : ByteArray) (hx : LOk ⟨39, a, b, c, s⟩) (w : World) (ht : Hid (Tb w)) : Calls prog 27 #[.agg #[.int .i64 39, .int .i64 a, .int .i64 b, .int .i64 c, .string s]] w fun e w' => KRes 39 e /\ Kept [] w w' := by
 have k0 : Kept [] w (w.alloc (.cells #[.int .i64 39, .int .i64 a, .int .i64 b, .int .i64 c, .string s] 36)) := zq136
 have T0 : Hid (Tb (w.alloc (.cells #[.int .i64 39, .int .i64 a, .int .i64 b, .int .i64 c, .string s] 36))) := zq139
 have a0 := hx.a0
 have a1 := hx.a1
 have c0 := hx.c0
 have c1 := hx.c1
 have s1 := hx.s1
 dsimp only at a0 a1 c0 c1 s1
 have K0 := hide1 k0
 clear k0 hx ht
 go_enter func27, ntmps27
 go_wp2_with fail
 refine (k_maps a b c c0 c1 _).mono ?_
 exact zq388
set_option maxRecDepth 100000 in
theorem k_lab40 (a b c : Int) (s : ByteArray) (hx : LOk ⟨40, a, b, c, s⟩) (w : World) (ht : Hid (Tb w)) : Calls prog 27 #[.agg #[.int .i64 40, .int .i64 a, .int .i64 b, .int .i64 c, .string s]] w fun e w' => KRes 40 e /\ Kept [] w w' := by
 have k0 : Kept [] w (w.alloc (.cells #[.int .i64 40, .int .i64 a, .int .i64 b, .int .i64 c, .string s] 36)) := zq136
 have T0 : Hid (Tb (w.alloc (.cells #[.int .i64 40, .int .i64 a, .int .i64 b, .int .i64 c, .string s] 36))) := zq139
 have a0 := hx.a0
 have a1 := hx.a1
 have c0 := hx.c0
 have c1 := hx.c1
 have s1 := hx.s1
 dsimp only at a0 a1 c0 c1 s1
 have K0 := hide1 k0
 clear k0 hx ht
 go_enter func27, ntmps27
 go_wp2_with fail
 refine (k_crosses a b c _).mono ?_
 exact zq388
set_option maxRecDepth 100000 in
theorem k_lab41 (a b c : Int) (s : ByteArray) (hx : LOk ⟨41, a, b, c, s⟩) (w : World) (ht : Hid (Tb w)) : Calls prog 27 #[.agg #[.int .i64 41, .int .i64 a, .int .i64 b, .int .i64 c, .string s]] w fun e w' => KRes 41 e /\ Kept [] w w' := by
 have k0 : Kept [] w (w.alloc (.cells #[.int .i64 41, .int .i64 a, .int .i64 b, .int .i64 c, .string s] 36)) := zq136
 have T0 : Hid (Tb (w.alloc (.cells #[.int .i64 41, .int .i64 a, .int .i64 b, .int .i64 c, .string s] 36))) := zq139
 have a0 := hx.a0
 have a1 := hx.a1
 have c0 := hx.c0
 have c1 := hx.c1
 have s1 := hx.s1
 dsimp only at a0 a1 c0 c1 s1
 have K0 := hide1 k0
 clear k0 hx ht
 go_enter func27, ntmps27
 go_wp2_with fail
 refine (k_loads a b _).mono ?_
 exact zq388
set_option maxRecDepth 100000 in
theorem k_lab42 (a b c : Int) (s : ByteArray) (hx : LOk ⟨42, a, b, c, s⟩) (w : World) (ht : Hid (Tb w)) : Calls prog 27 #[.agg #[.int .i64 42, .int .i64 a, .int .i64 b, .int .i64 c, .string s]] w fun e w' => KRes 42 e /\ Kept [] w w' := by
 have k0 : Kept [] w (w.alloc (.cells #[.int .i64 42, .int .i64 a, .int .i64 b, .int .i64 c, .string s] 36)) := zq136
 have T0 : Hid (Tb (w.alloc (.cells #[.int .i64 42, .int .i64 a, .int .i64 b, .int .i64 c, .string s] 36))) := zq139
 have a0 := hx.a0
 have a1 := hx.a1
 have c0 := hx.c0
 have c1 := hx.c1
 have s1 := hx.s1
 dsimp only at a0 a1 c0 c1 s1
 have K0 := hide1 k0
 clear k0 hx ht
 go_enter func27, ntmps27
 go_wp2_with fail
 refine (k_branches a b _).mono ?_
 exact zq388
set_option maxRecDepth 100000 in
theorem k_lab43 (a b c : Int) (s : ByteArray) (hx : LOk ⟨43, a, b, c, s⟩) (w : World) (ht : Hid (Tb w)) : Calls prog 27 #[.agg #[.int .i64 43, .int .i64 a, .int .i64 b, .int .i64 c, .string s]] w fun e w' => KRes 43 e /\ Kept [] w w' := by
 have k0 : Kept [] w (w.alloc (.cells #[.int .i64 43, .int .i64 a, .int .i64 b, .int .i64 c, .string s] 36)) := zq136
 have T0 : Hid (Tb (w.alloc (.cells #[.int .i64 43, .int .i64 a, .int .i64 b, .int .i64 c, .string s] 36))) := zq139
 have a0 := hx.a0
 have a1 := hx.a1
 have c0 := hx.c0
 have c1 := hx.c1
 have s1 := hx.s1
 dsimp only at a0 a1 c0 c1 s1
 have K0 := hide1 k0
 clear k0 hx ht
 go_enter func27, ntmps27
 go_wp2_with fail
 refine (k_amos a b _).mono ?_
 exact zq388
set_option maxRecDepth 100000 in
theorem k_lab38 (a b c : Int) (s : ByteArray) (hx : LOk ⟨38, a, b, c, s⟩) (w : World) (ht : Hid (Tb w)) : Calls prog 27 #[.agg #[.int .i64 38, .int .i64 a, .int .i64 b, .int .i64 c, .string s]] w fun e w' => KRes 38 e /\ Kept [] w w' := by
 have k0 : Kept [] w (w.alloc (.cells #[.int .i64 38, .int .i64 a, .int .i64 b, .int .i64 c, .string s] 36)) := zq136
 have T0 : Hid (Tb (w.alloc (.cells #[.int .i64 38, .int .i64 a, .int .i64 b, .int .i64 c, .string s] 36))) := zq139
 have a0 := hx.a0
 have a1 := hx.a1
 have c0 := hx.c0
 have c1 := hx.c1
 have s1 := hx.s1
 dsimp only at a0 a1 c0 c1 s1
 have K0 := hide1 k0
 clear k0 hx ht
 go_enter func27, ntmps27
 go_wp2_with fail
 refine (k_pair a b _).mono ?_
 exact zq388
set_option maxRecDepth 100000 in
theorem k_lab17 (a b c : Int) (s : ByteArray) (hx : LOk ⟨17, a, b, c, s⟩) (w : World) (ht : Hid (Tb w)) : Calls prog 27 #[.agg #[.int .i64 17, .int .i64 a, .int .i64 b, .int .i64 c, .string s]] w fun e w' => KRes 17 e /\ Kept [] w w' := by
 have k0 : Kept [] w (w.alloc (.cells #[.int .i64 17, .int .i64 a, .int .i64 b, .int .i64 c, .string s] 36)) := zq136
 have T0 : Hid (Tb (w.alloc (.cells #[.int .i64 17, .int .i64 a, .int .i64 b, .int .i64 c, .string s] 36))) := zq139
 have a0 := hx.a0
 have a1 := hx.a1
 have c0 := hx.c0
 have c1 := hx.c1
 have s1 := hx.s1
 dsimp only at a0 a1 c0 c1 s1
 have K0 := hide1 k0
 clear k0 hx ht
 go_enter func27, ntmps27
 go_wp2_with fail
 refine (k_wordW b _ T0).mono ?_
 rintro e w1 ⟨⟨r, rfl⟩, hb⟩
 have K1 := hide1 (K0.out.trans (Below.k hb))
 clear hb K0 T0
 exact zq389
set_option maxRecDepth 100000 in
theorem k_lab37 (a b c : Int) (s : ByteArray) (hx : LOk ⟨37, a, b, c, s⟩) (w : World) (ht : Hid (Tb w)) : Calls prog 27 #[.agg #[.int .i64 37, .int .i64 a, .int .i64 b, .int .i64 c, .string s]] w fun e w' => KRes 37 e /\ Kept [] w w' := by
 have k0 : Kept [] w (w.alloc (.cells #[.int .i64 37, .int .i64 a, .int .i64 b, .int .i64 c, .string s] 36)) := zq136
 have T0 : Hid (Tb (w.alloc (.cells #[.int .i64 37, .int .i64 a, .int .i64 b, .int .i64 c, .string s] 36))) := zq139
 have a0 := hx.a0
 have a1 := hx.a1
 have c0 := hx.c0
 have c1 := hx.c1
 have s1 := hx.s1
 dsimp only at a0 a1 c0 c1 s1
 have K0 := hide1 k0
 clear k0 hx ht
 go_enter func27, ntmps27
 go_wp2_with fail
 refine (k_pick a a0 a1 96 (by decide) (by decide) _).mono ?_
 rintro e w1 ⟨⟨j, hj, rfl⟩, hw1⟩
 have T1 : Hid (Tb w1) := by rw [hw1]; exact T0
 have K1 : Hid (Kept [] w w1) := by rw [hw1]; exact K0
 clear hw1 T0 K0
 go_wp2_with fail
 refine (k_goldW j hj _ T1).mono ?_
 rintro e w2 ⟨⟨r, rfl⟩, hb⟩
 have K2 := hide1 (K1.out.trans (Below.k hb))
 clear hb K1 T1
 go_wp2_with fail
 go_ret
 exact ⟨⟨r, rfl, hide1 (by omega)⟩, K2.out⟩
set_option maxRecDepth 100000 in
theorem k_labN (k a b c : Int) (s : ByteArray) (hk : ¬ (k = 17 \/ (33 <= k /\ k <= 43))) (w : World) : Calls prog 27 #[.agg #[.int .i64 k, .int .i64 a, .int .i64 b, .int .i64 c, .string s]] w fun e w' => KRes k e /\ Kept [] w w' := by
 have K0 : Hid (Kept [] w (w.alloc (.cells #[.int .i64 k, .int .i64 a, .int .i64 b, .int .i64 c, .string s] 36))) := hide1 ((Kept.refl _ _).alloc _)
 have q17 : (k == 17) = false := by simp; omega
 have q33 : (k == 33) = false := by simp; omega
 have q34 : (k == 34) = false := by simp; omega
 have q35 : (k == 35) = false := by simp; omega
 have q36 : (k == 36) = false := by simp; omega
 have q37 : (k == 37) = false := by simp; omega
 have q38 : (k == 38) = false := by simp; omega
 have q39 : (k == 39) = false := by simp; omega
 have q40 : (k == 40) = false := by simp; omega
 have q41 : (k == 41) = false := by simp; omega
 have q42 : (k == 42) = false := by simp; omega
 have q43 : (k == 43) = false := by simp; omega
 clear hk
 go_enter func27, ntmps27
 go_wp2_with fail
 go_ret
 exact ⟨⟨true, rfl, hide1 (fun _ => rfl)⟩, K0.out⟩
theorem k_lab (x : LOp) (hx : LOk x) (w : World) (ht : Hid (Tb w)) : Calls prog 27 #[x.v] w fun e w' => KRes x.k e /\ Kept [] w w' := by
 obtain ⟨k, a, b, c, s⟩ := x
 unfold LOp.v
 simp only
 by_cases h : k = 17 \/ (33 <= k /\ k <= 43)
 . have : k = 17 \/ k = 33 \/ k = 34 \/ k = 35 \/ k = 36 \/ k = 37 \/ k = 38 \/ k = 39 \/ k = 40 \/ k = 41 \/ k = 42 \/ k = 43 := by omega
   rcases this with rfl | rfl | rfl | rfl | rfl | rfl | rfl | rfl | rfl | rfl | rfl | rfl
   . exact k_lab17 a b c s hx w ht
   . exact k_lab33 a b c s hx w ht
   . exact k_lab34 a b c s hx w ht
   . exact k_lab35 a b c s hx w ht
   . exact k_lab36 a b c s hx w ht
   . exact k_lab37 a b c s hx w ht
   . exact k_lab38 a b c s hx w ht
   . exact k_lab39 a b c s hx w ht
   . exact k_lab40 a b c s hx w ht
   . exact k_lab41 a b c s hx w ht
   . exact k_lab42 a b c s hx w ht
   . exact k_lab43 a b c s hx w ht
 . exact k_labN k a b c s h w
def KR (k : Int) (e : Ending) : Prop := ∃ r, e = .returned (.bool r) /\ Hid (k = 1 \/ k = 9 \/ k = 3 -> r = true)
theorem kr_true (k : Int) : KR k (.returned (.bool true)) := ⟨true, rfl, hide1 (fun _ => rfl)⟩
set_option maxRecDepth 100000 in
theorem k_step1 (wb n : Nat) (hn : n < 1073741824) (a b c : Int) (s : ByteArray) (w : World) (hw : Hid (KwH w wb n)) :
 Calls prog 17 #[.pointer (some ⟨wb, 0, none⟩), .agg #[.int .i64 1, .int .i64 a, .int .i64 b, .int .i64 c, .string s]] w fun e w' => e = .returned (.bool true) /\ KwH w' wb (n + 1) /\ Below wb w w' := by
 have k0 : Kept [] w (w.alloc (.cells #[.int .i64 1, .int .i64 a, .int .i64 b, .int .i64 c, .string s] 36)) := zq136
 have ob0 := BoxF.new w [.int .i64 1, .int .i64 a, .int .i64 b, .int .i64 c, .string s] 36
 have l0 := hw.out.lt
 by_cases hx : 0 <= b /\ b <= 65536
 . obtain ⟨z, rfl⟩ : ∃ z : Nat, b = z := ⟨b.toNat, by omega⟩
   have hz : z <= 65536 := by omega
   obtain ⟨W0, hW0⟩ := zn1 (w.alloc (.cells #[.int .i64 1, .int .i64 a, .int .i64 (z : Int), .int .i64 c, .string s] 36))
   rw [<- hW0] at k0 ob0
   obtain ⟨P, u, hL', hP⟩ := hw.out
   have nbox : ¬ u.ownBlock = some w.heap.size := fun e => by have := (hL'.ox.lt _ e).2; omega
   have hL := hL'.keep k0
   have N := hide1 (m_New z hz W0)
   have lW := k0.size
   have HL := hide1 hL
   have q0 : decide (0 <= (z : Int)) = true := by simp
   have q1 : decide ((z : Int) <= 65536) = true := by simp; omega
   have K0 := hide1 k0
   have lb := hL.lt
   have hs0 : w.heap.size < W0.heap.size := by rw [hW0]; simp
   clear hx hw k0 hL
   go_enter func17, ntmps17
   go_wp2_with fail
   rw [<- hW0]
   clear hW0
   refine N.out.mono ?_
   rintro o w1 ⟨rfl, hm1, hk1⟩
   have J := hide1 (k_join wb P u ⟨W0.heap.size + 1, W0.heap.size, z⟩ W0.heap.size zq540 lb (fun k hk => (HL.out.ox.lt k hk).2) (fun a ha => ⟨((HL.out.pr a ha).m.lt).1, ((HL.out.pr a ha).m.lt).2⟩) (by omega) w1 (hide1 (HL.out.keep hk1)) (hide1 hm1))
   have ob1 := ob0.kept hk1
   have B1 : Hid (Below wb w w1) := hide1 (kept_below (K0.out.trans hk1) (by simp) (by omega))
   have nob : ¬ w.heap.size ∈ wb :: u.ownBlock.toList := by
    intro q
    simp at q
    rcases q with e | e
    . omega
    . exact nbox e
   have nge : ∀ k ∈ wb :: u.ownBlock.toList, wb <= k := by
    intro k q
    simp at q
    rcases q with e | e
    . omega
    . have := (HL.out.ox.lt k e).1; omega
   have lb1 : wb < w1.heap.size := Nat.lt_of_lt_of_le lb hk1.size
   clear N hm1 hk1 HL ob0 K0
   go_wp2_with fail
   refine J.out.mono ?_
   rintro o w2 ⟨rfl, hl2, hb2⟩
   have ob2 := ob1.more hb2 nob
   have e2 := ob2.cell 2 _ rfl
   have B2 : Hid (Below wb w w2) := hide1 (B1.out.trans (kept_below hb2 nge (Nat.le_of_lt lb1)))
   have L2 := hide1 (hl2.mono (show P.length + 1 <= n + 1 by omega))
   clear hl2 hb2 J B1
   go_wp2_with fail
   go_ret
   exact ⟨rfl, L2.out, B2.out⟩
 . have N := hide1 (x_New_no b (by omega) (w.alloc (.cells #[.int .i64 1, .int .i64 a, .int .i64 b, .int .i64 c, .string s] 36)))
   have L0 := hide1 ((hw.out.keep k0).mono (show n <= n + 1 by omega))
   have B0 : Hid (Below wb w (w.alloc (.cells #[.int .i64 1, .int .i64 a, .int .i64 b, .int .i64 c, .string s] 36))) := hide1 (kept_below k0 (by simp) (by omega))
   by_cases hb : 0 <= b
   . have q0 : decide (0 <= b) = true := by simp [hb]
     have q1 : decide (b <= 65536) = false := by simp; omega
     exact zq390
   . have q0 : decide (0 <= b) = false := by simp; omega
     exact zq390
def KPost (wb n : Nat) (k : Int) (w : World) (e : Ending) (w' : World) : Prop := KR k e /\ KwH w' wb (n + 1) /\ Below wb w w'
set_option maxRecDepth 100000 in
theorem k_step0 (wb n : Nat) (x : LOp) (hx : LOk x) (hk : ¬ x.k = 1) (w : World) (ht : Hid (Tb w)) (p : Option Addr) (cap : Nat) (c0 : w.cell? ⟨wb, 0, none⟩ = some (.slice p 0 cap)) (hw : Hid (KwH w wb n)) :
 Calls prog 17 #[.pointer (some ⟨wb, 0, none⟩), x.v] w fun e w' => KPost wb n x.k w e w' := by
 have k0 : Kept [] w (w.alloc (.cells #[.int .i64 x.k, .int .i64 x.a, .int .i64 x.b, .int .i64 x.c, .string x.s] 36)) := zq136
 have LA := hide1 (k_lab x hx _ (hide1 (ht.out.more ((Below.refl _ _).alloc (Nat.le_refl _) (.cells #[.int .i64 x.k, .int .i64 x.a, .int .i64 x.b, .int .i64 x.c, .string x.s] 36)))))
 have H0 := hide1 (hw.out.keep k0)
 have B0 : Hid (Below wb w (w.alloc (.cells #[.int .i64 x.k, .int .i64 x.a, .int .i64 x.b, .int .i64 x.c, .string x.s] 36))) := hide1 (kept_below k0 (by simp) (Nat.le_of_lt hw.out.lt))
 have hl := hw.out.lt
 have hl' : ¬ wb = w.heap.size := by omega
 have C0 := hide1 c0
 have K0 := hide1 k0
 obtain ⟨k, a, b, c, s⟩ := x
 unfold LOp.v at LA |-
 simp only at hk LA H0 B0 K0 |-
 have q1 : (k == 1) = false := by simp [hk]
 clear k0 hk ht hx hw c0
 go_enter func17, ntmps17
 go_wp2_with fail
 refine LA.out.mono ?_
 rintro o w1 ⟨⟨r, rfl, hr⟩, hk1⟩
 have L1 := hide1 ((H0.out.keep hk1).mono (show n <= n + 1 by omega))
 have B1 : Hid (Below wb w w1) := hide1 (B0.out.trans (kept_below hk1 (by simp) (Nat.le_of_lt H0.out.lt)))
 have d0 : w1.cell? ⟨wb, 0, none⟩ = some (.slice p 0 cap) := ((K0.out.trans hk1).cell hl (by simp)).trans C0.out
 have dl := L1.out.lt
 clear LA hk1 H0 B0 K0 C0
 cases r
 . go_wp2_with fail
   go_ret
   exact ⟨⟨false, rfl, hide1 (fun h => hr.out (by omega))⟩, L1.out, B1.out⟩
 . go_wp2_with fail
   go_ret
   exact ⟨kr_true k, L1.out, B1.out⟩
structure Fc where
 mode : Int
 pc : Int
 status : Int
 ie : Int
 ip : Int
 mideleg : Int
 medeleg : Int
 satp : Int
 inhibit : Int
 cycle : Int
 cycleh : Int
 ret : Int
 reth : Int
 ram : ByteArray
 regs : ByteArray
def Fc.l (f : Fc) : List Value := [.int .i64 f.mode, .int .i64 f.pc, .int .i64 f.status, .int .i64 f.ie, .int .i64 f.ip, .int .i64 f.mideleg, .int .i64 f.medeleg, .int .i64 f.satp, .int .i64 f.inhibit, .int .i64 f.cycle, .int .i64 f.cycleh, .int .i64 f.ret, .int .i64 f.reth, .string f.ram, .string f.regs]
structure FcOk (f : Fc) (z : Nat) : Prop where
 mode : 0 <= f.mode /\ f.mode < 4294967296
 pc : 0 <= f.pc /\ f.pc < 4294967296
 status : 0 <= f.status /\ f.status < 4294967296
 ie : 0 <= f.ie /\ f.ie < 4294967296
 ip : 0 <= f.ip /\ f.ip < 4294967296
 mideleg : 0 <= f.mideleg /\ f.mideleg < 4294967296
 medeleg : 0 <= f.medeleg /\ f.medeleg < 4294967296
 satp : 0 <= f.satp /\ f.satp < 4294967296
 inhibit : 0 <= f.inhibit /\ f.inhibit < 4294967296
 cycle : 0 <= f.cycle /\ f.cycle < 4294967296
 cycleh : 0 <= f.cycleh /\ f.cycleh < 4294967296
 ret : 0 <= f.ret /\ f.ret < 4294967296
 reth : 0 <= f.reth /\ f.reth < 4294967296
 ram : f.ram.size = z
 regs : f.regs.size = 128
theorem Mz.set {w : World} {mb rb z : Nat} (h : Mz w mb rb z) (b k : Nat) (v : Value) (h1 : mb ≠ b) (h2 : rb ≠ b) : Mz (w.setCell ⟨b, k, none⟩ v) mb rb z := h.more ((Kept.refl [b] _).setCell (.inl (by simp)) v) (by simpa using h1) (by simpa using h2)
theorem BoxF.set {w : World} {b : Nat} {cs : List Value} (h : BoxF w b cs) (k : Nat) (v : Value) (hk : k < cs.length) : BoxF (w.setCell ⟨b, k, none⟩ v) b (cs.set k v) := by
 refine ⟨fun j x hx => ?_, fun o => by rw [World.frozen?_setCell]; exact h.fro o, Nat.lt_of_lt_of_le h.lt ((Kept.refl [b] w).setCell (.inl (by simp)) v).size⟩
 by_cases hj : k = j
 . subst hj
   rw [List.getElem?_set_self hk] at hx
   have e : x = v := (Option.some.inj hx).symm
   rw [e]
   exact World.cell?_setCell_same _ _ _ (h.cell k _ (List.getElem?_eq_getElem hk))
 . rw [List.getElem?_set_ne hj] at hx
   rw [World.cell?_setCell_other _ _ _ _ (by first | (simp; done) | (simp; omega))]
   exact h.cell j x hx
structure FcX (X : XS) (f : Fc) : Prop where
 mode : f.mode = (X.mode : Nat)
 pc : f.pc = (X.pc : Nat)
 status : f.status = ((xcsrE X 768).1 : Nat)
 ie : f.ie = ((xcsrE X 772).1 : Nat)
 ip : f.ip = ((xcsrE X 836).1 : Nat)
 mideleg : f.mideleg = ((xcsrE X 771).1 : Nat)
 medeleg : f.medeleg = ((xcsrE X 770).1 : Nat)
 satp : f.satp = ((xcsrE X 384).1 : Nat)
 inhibit : f.inhibit = ((xcsrE X 800).1 : Nat)
 cycle : f.cycle = ((xcsrE X 2816).1 : Nat)
 cycleh : f.cycleh = ((xcsrE X 2944).1 : Nat)
 ret : f.ret = ((xcsrE X 2818).1 : Nat)
 reth : f.reth = ((xcsrE X 2946).1 : Nat)
 ram : f.ram = pkB X.b.ram 0 X.b.ram.length
 regs : f.regs = (showX X).extract 4 132
theorem show_size {X : XS} (h : XOk X) : 200 <= (showX X).size /\ (showX X).size <= 300 := by
 have q1 := h.b.rx
 have q2 := h.b.tx
 unfold showX
 rw [ByteArray.size_append, ByteArray.size_append, ByteArray.size_append, hartS_size, csrS_size, timerS_size, portS_size]
 omega
theorem FcX.ok {X : XS} {f : Fc} {z : Nat} (h : FcX X f) (hX : XInv X) (hz : X.b.ram.length = z) : FcOk f z := by
 have e := fun n => rcs_lt X hX.ok n
 have e' : ∀ n, (xcsrE X n).1 < 4294967296 := by
  intro n
  have := e n
  unfold xcsrE
  split
  . exact this
  . decide
 have m := hX.ok.mode
 have p := hX.ok.pc
 have sz := show_size hX.ok
 refine ⟨by rw [h.mode]; omega, by rw [h.pc]; omega, by rw [h.status]; have := e' 768; omega, by rw [h.ie]; have := e' 772; omega, by rw [h.ip]; have := e' 836; omega, by rw [h.mideleg]; have := e' 771; omega, by rw [h.medeleg]; have := e' 770; omega, by rw [h.satp]; have := e' 384; omega, by rw [h.inhibit]; have := e' 800; omega, by rw [h.cycle]; have := e' 2816; omega, by rw [h.cycleh]; have := e' 2944; omega, by rw [h.ret]; have := e' 2818; omega, by rw [h.reth]; have := e' 2946; omega, by rw [h.ram, pkB_size _ _ _ (by omega)]; exact hz, by rw [h.regs, ByteArray.size_extract]; omega⟩
structure Lk (w0 : World) (mb rb : Nat) (X : XS) (cs : List Value) (w : World) : Prop where
 b : BoxF w w0.heap.size cs
 m : XAt w mb rb X
 k : Kept [] w0 w
theorem Lk.set {w0 : World} {mb rb : Nat} {X : XS} {cs : List Value} {w w' : World} (h : Lk w0 mb rb X cs w) (hk : Kept [] w w') (n1 : mb < w0.heap.size) (n2 : rb < w0.heap.size) (i : Nat) (v : Value) (hi : i < cs.length := by simp) : Lk w0 mb rb X (cs.set i v) (w'.setCell ⟨w0.heap.size, i, none⟩ v) :=
 ⟨(h.b.kept hk).set i v hi, (h.m.kept hk).more ((Kept.refl [w0.heap.size] _).setCell (.inl (by simp)) v) (by simp; omega) (by simp; omega), (h.k.trans hk).setCell (.inr (Nat.le_refl _)) v⟩
set_option maxRecDepth 100000 in
theorem k_lookV (mb rb : Nat) (X : XS) (hX : XInv X) (w) (hw : Hid (XAt w mb rb X)) : Calls prog 52 #[.pointer (some ⟨mb, 0, none⟩)] w fun o w' => (∃ f : Fc, FcX X f /\ o = .returned (.pointer (some ⟨w.heap.size, 0, none⟩)) /\ BoxF w' w.heap.size f.l) /\ Kept [] w w' := by
 have n1 := hw.out.lt
 have n2 := hw.out.rlt
 have hO := hX.ok
 have zs := show_size hO
 have K0 : Kept [] w (w.alloc (.cells #[.int .i64 0, .int .i64 0, .int .i64 0, .int .i64 0, .int .i64 0, .int .i64 0, .int .i64 0, .int .i64 0, .int .i64 0, .int .i64 0, .int .i64 0, .int .i64 0, .int .i64 0, .string ⟨#[]⟩, .string ⟨#[]⟩] 97)) := zq136
 have S : Hid (Lk w mb rb X [.int .i64 0, .int .i64 0, .int .i64 0, .int .i64 0, .int .i64 0, .int .i64 0, .int .i64 0, .int .i64 0, .int .i64 0, .int .i64 0, .int .i64 0, .int .i64 0, .int .i64 0, .string ⟨#[]⟩, .string ⟨#[]⟩] (w.alloc (.cells #[.int .i64 0, .int .i64 0, .int .i64 0, .int .i64 0, .int .i64 0, .int .i64 0, .int .i64 0, .int .i64 0, .int .i64 0, .int .i64 0, .int .i64 0, .int .i64 0, .int .i64 0, .string ⟨#[]⟩, .string ⟨#[]⟩] 97))) := hide1 ⟨BoxF.new w _ _, hw.out.kept K0, K0⟩
 obtain ⟨W0, hW0⟩ := zn1 (w.alloc (.cells #[.int .i64 0, .int .i64 0, .int .i64 0, .int .i64 0, .int .i64 0, .int .i64 0, .int .i64 0, .int .i64 0, .int .i64 0, .int .i64 0, .int .i64 0, .int .i64 0, .int .i64 0, .string ⟨#[]⟩, .string ⟨#[]⟩] 97))
 rw [<- hW0] at S
 have C := hide1 (fun W n (hW : XAt W mb rb X) => k_csrV mb rb X hO n _ rfl W (hide1 hW))
 have CR := hide1 (fun W (hW : XAt W mb rb X) => k_ramV mb rb X hO _ rfl W (hide1 hW))
 have SH := hide1 (fun W (hW : XAt W mb rb X) => x_Show mb rb X hO W (hide1 hW))
 clear hw hX hO K0
 go_enter func52, ntmps52
 have lt := S.out.b.lt
 have fr := S.out.b.fro
 have ce := S.out.b.cell 0 _ rfl
 go_wp2_with fail
 rw [<- hW0]
 clear hW0
 refine (x_Mode mb rb X _ (hide1 S.out.m)).mono ?_
 rintro o w1 ⟨rfl, rfl⟩
 replace S := hide1 (S.out.set (Kept.refl [] _) n1 n2 0 (.int .i64 ((X.mode : Nat) : Int)))
 have l2 := lt
 have f2 := fr
 have c2 := ce
 clear lt fr ce
 have lt := S.out.b.lt
 have fr := S.out.b.fro
 have ce := S.out.b.cell 1 _ rfl
 go_wp2_with fail
 refine (x_Pc mb rb X _ (hide1 S.out.m)).mono ?_
 rintro o w1 ⟨rfl, rfl⟩
 replace S := hide1 (S.out.set (Kept.refl [] _) n1 n2 1 (.int .i64 ((X.pc : Nat) : Int)))
 have l2 := lt
 have f2 := fr
 have c2 := ce
 clear lt fr ce
 have lt := S.out.b.lt
 have fr := S.out.b.fro
 have ce := S.out.b.cell 2 _ rfl
 go_wp2_with fail
 refine (C.out _ _ S.out.m).mono ?_
 rintro o w1 ⟨rfl, hk⟩
 clear lt fr ce
 have lt := (S.out.b.kept hk).lt
 have fr := (S.out.b.kept hk).fro
 have ce := (S.out.b.kept hk).cell 2 _ rfl
 replace S := hide1 (S.out.set hk n1 n2 2 (.int .i64 (((xcsrE X 768).1 : Nat) : Int)))
 clear hk
 have l2 := lt
 have f2 := fr
 have c2 := ce
 clear lt fr ce
 have lt := S.out.b.lt
 have fr := S.out.b.fro
 have ce := S.out.b.cell 3 _ rfl
 go_wp2_with fail
 refine (C.out _ _ S.out.m).mono ?_
 rintro o w1 ⟨rfl, hk⟩
 clear lt fr ce
 have lt := (S.out.b.kept hk).lt
 have fr := (S.out.b.kept hk).fro
 have ce := (S.out.b.kept hk).cell 3 _ rfl
 replace S := hide1 (S.out.set hk n1 n2 3 (.int .i64 (((xcsrE X 772).1 : Nat) : Int)))
 clear hk
 have l2 := lt
 have f2 := fr
 have c2 := ce
 clear lt fr ce
 have lt := S.out.b.lt
 have fr := S.out.b.fro
 have ce := S.out.b.cell 4 _ rfl
 go_wp2_with fail
 refine (C.out _ _ S.out.m).mono ?_
 rintro o w1 ⟨rfl, hk⟩
 clear lt fr ce
 have lt := (S.out.b.kept hk).lt
 have fr := (S.out.b.kept hk).fro
 have ce := (S.out.b.kept hk).cell 4 _ rfl
 replace S := hide1 (S.out.set hk n1 n2 4 (.int .i64 (((xcsrE X 836).1 : Nat) : Int)))
 clear hk
 have l2 := lt
 have f2 := fr
 have c2 := ce
 clear lt fr ce
 have lt := S.out.b.lt
 have fr := S.out.b.fro
 have ce := S.out.b.cell 5 _ rfl
 go_wp2_with fail
 refine (C.out _ _ S.out.m).mono ?_
 rintro o w1 ⟨rfl, hk⟩
 clear lt fr ce
 have lt := (S.out.b.kept hk).lt
 have fr := (S.out.b.kept hk).fro
 have ce := (S.out.b.kept hk).cell 5 _ rfl
 replace S := hide1 (S.out.set hk n1 n2 5 (.int .i64 (((xcsrE X 771).1 : Nat) : Int)))
 clear hk
 have l2 := lt
 have f2 := fr
 have c2 := ce
 clear lt fr ce
 have lt := S.out.b.lt
 have fr := S.out.b.fro
 have ce := S.out.b.cell 6 _ rfl
 go_wp2_with fail
 refine (C.out _ _ S.out.m).mono ?_
 rintro o w1 ⟨rfl, hk⟩
 clear lt fr ce
 have lt := (S.out.b.kept hk).lt
 have fr := (S.out.b.kept hk).fro
 have ce := (S.out.b.kept hk).cell 6 _ rfl
 replace S := hide1 (S.out.set hk n1 n2 6 (.int .i64 (((xcsrE X 770).1 : Nat) : Int)))
 clear hk
 have l2 := lt
 have f2 := fr
 have c2 := ce
 clear lt fr ce
 have lt := S.out.b.lt
 have fr := S.out.b.fro
 have ce := S.out.b.cell 7 _ rfl
 go_wp2_with fail
 refine (C.out _ _ S.out.m).mono ?_
 rintro o w1 ⟨rfl, hk⟩
 clear lt fr ce
 have lt := (S.out.b.kept hk).lt
 have fr := (S.out.b.kept hk).fro
 have ce := (S.out.b.kept hk).cell 7 _ rfl
 replace S := hide1 (S.out.set hk n1 n2 7 (.int .i64 (((xcsrE X 384).1 : Nat) : Int)))
 clear hk
 have l2 := lt
 have f2 := fr
 have c2 := ce
 clear lt fr ce
 have lt := S.out.b.lt
 have fr := S.out.b.fro
 have ce := S.out.b.cell 8 _ rfl
 go_wp2_with fail
 refine (C.out _ _ S.out.m).mono ?_
 rintro o w1 ⟨rfl, hk⟩
 clear lt fr ce
 have lt := (S.out.b.kept hk).lt
 have fr := (S.out.b.kept hk).fro
 have ce := (S.out.b.kept hk).cell 8 _ rfl
 replace S := hide1 (S.out.set hk n1 n2 8 (.int .i64 (((xcsrE X 800).1 : Nat) : Int)))
 clear hk
 have l2 := lt
 have f2 := fr
 have c2 := ce
 clear lt fr ce
 have lt := S.out.b.lt
 have fr := S.out.b.fro
 have ce := S.out.b.cell 9 _ rfl
 go_wp2_with fail
 refine (C.out _ _ S.out.m).mono ?_
 rintro o w1 ⟨rfl, hk⟩
 clear lt fr ce
 have lt := (S.out.b.kept hk).lt
 have fr := (S.out.b.kept hk).fro
 have ce := (S.out.b.kept hk).cell 9 _ rfl
 replace S := hide1 (S.out.set hk n1 n2 9 (.int .i64 (((xcsrE X 2816).1 : Nat) : Int)))
 clear hk
 have l2 := lt
 have f2 := fr
 have c2 := ce
 clear lt fr ce
 have lt := S.out.b.lt
 have fr := S.out.b.fro
 have ce := S.out.b.cell 10 _ rfl
 go_wp2_with fail
 refine (C.out _ _ S.out.m).mono ?_
 rintro o w1 ⟨rfl, hk⟩
 clear lt fr ce
 have lt := (S.out.b.kept hk).lt
 have fr := (S.out.b.kept hk).fro
 have ce := (S.out.b.kept hk).cell 10 _ rfl
 replace S := hide1 (S.out.set hk n1 n2 10 (.int .i64 (((xcsrE X 2944).1 : Nat) : Int)))
 clear hk
 have l2 := lt
 have f2 := fr
 have c2 := ce
 clear lt fr ce
 have lt := S.out.b.lt
 have fr := S.out.b.fro
 have ce := S.out.b.cell 11 _ rfl
 go_wp2_with fail
 refine (C.out _ _ S.out.m).mono ?_
 rintro o w1 ⟨rfl, hk⟩
 clear lt fr ce
 have lt := (S.out.b.kept hk).lt
 have fr := (S.out.b.kept hk).fro
 have ce := (S.out.b.kept hk).cell 11 _ rfl
 replace S := hide1 (S.out.set hk n1 n2 11 (.int .i64 (((xcsrE X 2818).1 : Nat) : Int)))
 clear hk
 have l2 := lt
 have f2 := fr
 have c2 := ce
 clear lt fr ce
 have lt := S.out.b.lt
 have fr := S.out.b.fro
 have ce := S.out.b.cell 12 _ rfl
 go_wp2_with fail
 refine (C.out _ _ S.out.m).mono ?_
 rintro o w1 ⟨rfl, hk⟩
 clear lt fr ce
 have lt := (S.out.b.kept hk).lt
 have fr := (S.out.b.kept hk).fro
 have ce := (S.out.b.kept hk).cell 12 _ rfl
 replace S := hide1 (S.out.set hk n1 n2 12 (.int .i64 (((xcsrE X 2946).1 : Nat) : Int)))
 clear hk
 have l2 := lt
 have f2 := fr
 have c2 := ce
 clear lt fr ce
 have lt := S.out.b.lt
 have fr := S.out.b.fro
 have ce := S.out.b.cell 13 _ rfl
 go_wp2_with fail
 refine (CR.out _ S.out.m).mono ?_
 rintro o w1 ⟨rfl, rfl⟩
 replace S := hide1 (S.out.set (Kept.refl [] _) n1 n2 13 (.string (pkB X.b.ram 0 X.b.ram.length)))
 go_wp2_with fail
 refine (SH.out _ S.out.m).mono ?_
 rintro o w1 ⟨rfl, hk⟩
 clear lt fr ce
 have lt := (S.out.b.kept hk).lt
 have fr := (S.out.b.kept hk).fro
 have ce := (S.out.b.kept hk).cell 14 _ rfl
 have S2 := hide1 (fun v => S.out.set hk n1 n2 14 v)
 obtain ⟨x, hx⟩ := zn1 ((showX X).extract 4 132)
 have hsl : ∀ w, (Instr.slice 9 (.string (showX X)) (some (.int .i64 4)) (some (.int .i64 132)) none).run prog w = .ok (.string x) w := by
  intro w; rw [hx]; exact slice_mid _ 4 132 (by omega) (by omega) w
 have HX := hide1 hx
 clear hx hk S SH CR C
 go_wp2_with fail
 go_ret
 exact ⟨⟨⟨X.mode, X.pc, ((xcsrE X 768).1 : Nat), ((xcsrE X 772).1 : Nat), ((xcsrE X 836).1 : Nat), ((xcsrE X 771).1 : Nat), ((xcsrE X 770).1 : Nat), ((xcsrE X 384).1 : Nat), ((xcsrE X 800).1 : Nat), ((xcsrE X 2816).1 : Nat), ((xcsrE X 2944).1 : Nat), ((xcsrE X 2818).1 : Nat), ((xcsrE X 2946).1 : Nat), pkB X.b.ram 0 X.b.ram.length, x⟩, ⟨rfl, rfl, rfl, rfl, rfl, rfl, rfl, rfl, rfl, rfl, rfl, rfl, rfl, rfl, HX.out⟩, rfl, (S2.out (.string x)).b⟩, (S2.out (.string x)).k⟩
theorem k_look (mb rb z : Nat) (w : World) (hw : Hid (Mz w mb rb z)) : Calls prog 52 #[.pointer (some ⟨mb, 0, none⟩)] w fun o w' => (∃ f : Fc, FcOk f z /\ o = .returned (.pointer (some ⟨w.heap.size, 0, none⟩)) /\ BoxF w' w.heap.size f.l) /\ Kept [] w w' := by
 obtain ⟨X, h1, h2, h3⟩ := hw.out
 refine (k_lookV mb rb X h2 w (hide1 h1)).mono (fun o w' h => ⟨?_, h.2⟩)
 obtain ⟨⟨f, hf, a, b⟩, _⟩ := h
 exact ⟨f, hf.ok h2 h3, a, b⟩
theorem beqC (a b : Int) : ((a == b) = true /\ (a != b) = false) \/ ((a == b) = false /\ (a != b) = true) := by
 by_cases h : a = b
 . left; subst h; simp
 . right; simp [h]
set_option maxRecDepth 100000 in
theorem k_paged (fb : Nat) (f : Fc) (w : World) (hf : Hid (BoxF w fb f.l)) : CS 65 #[.pointer (some ⟨fb, 0, none⟩)] (.bool (!(f.mode == 3) && (f.satp / 2147483648 == 1))) w := by
 have c0 := hf.out.cell 0 _ rfl
 have c7 := hf.out.cell 7 _ rfl
 have cl := hf.out.lt
 rcases beqC f.mode 3 with ⟨ha, ha'⟩ | ⟨ha, ha'⟩ <;> rcases beqC (f.satp / 2147483648) 1 with ⟨hb, hb'⟩ | ⟨hb, hb'⟩ <;> rw [ha, hb]
 all_goals
  go_enter func65, ntmps65
  go_wp2_with fail
  go_ret
  exact ⟨rfl, rfl⟩
def Sl (w0 : World) (fb : Nat) (f : Fc) (mb rb : Nat) (X : XS) (w : World) : Prop := BoxF w fb f.l /\ XAt w mb rb X /\ Kept [] w0 w
theorem Sl.kept {w0 : World} {fb : Nat} {f : Fc} {mb rb : Nat} {X : XS} {w w' : World} (h : Sl w0 fb f mb rb X w) (hk : Kept [] w w') : Sl w0 fb f mb rb X w' := ⟨h.1.kept hk, h.2.1.kept hk, h.2.2.trans hk⟩
theorem Sl.drewN {w0 : World} {fb : Nat} {f : Fc} {mb rb : Nat} {X : XS} {w : World} (h : Sl w0 fb f mb rb X w) (n : Nat) : Sl w0 fb f mb rb X (w.drewN n) := h.kept ((Kept.refl [] w).drewN n)
theorem beqT {a b : Int} (h : a = b) : (a == b) = true /\ (a != b) = false := by subst h; simp
theorem beqF {a b : Int} (h : a ≠ b) : (a == b) = false /\ (a != b) = true := by simp [h]
theorem wout_0s {v m : Nat} (h : v &&& m = v) : wout v m = 0 := by unfold wout; rw [h]; omega
theorem andn0 {x y : Int} {v m : Nat} (e : x = (v : Nat)) (e2 : y = (m : Nat)) (hv : v < 4294967296) (hm : m < 4294967296) (h : v &&& m = v) : bits .andNot .i64 x y = 0 := by
 rw [e, e2, b_andn v m (by omega) (by omega), wout_0s h]; rfl
theorem andE {x y : Int} {v m : Nat} (e : x = (v : Nat)) (e2 : y = (m : Nat)) (hv : v < 4294967296) (hm : m < 4294967296) : bits .and .i64 x y = ((v &&& m : Nat) : Int) := by
 rw [e, e2, b_and v m (by omega) (by omega)]
theorem and_ev {v : Nat} (h : v % 2 = 0) : v &&& 1 = 0 := by rw [Nat.and_one_is_mod]; exact h
theorem and_2 {v : Nat} (h : v.testBit 1 = false) : v &&& 2 = 0 := by
 rw [Nat.and_comm, show (2 : Nat) = 2 ^ 1 from rfl, Nat.and_comm]
 apply Nat.eq_of_testBit_eq
 intro i
 rw [Nat.testBit_and, Nat.testBit_two_pow, Nat.zero_testBit]
 by_cases e : 1 = i
 . subst e; rw [h]; rfl
 . simp [e]
theorem pen_lt' {X : XS} (h : XInv X) : penD X < 4294967296 := by
 have := rcs_lt X h.ok 836
 exact this
structure Leg (X : XS) (f : Fc) : Prop where
 m : f.mode = 0 \/ f.mode = 1 \/ f.mode = 3
 a1 : bits .and .i64 (f.status / 2048) 3 ≠ 2
 a2 : bits .andNot .i64 f.status 8264106 = 0
 a3 : bits .andNot .i64 f.ie 2730 = 0
 a4 : bits .andNot .i64 f.mideleg 546 = 0
 a5 : bits .andNot .i64 f.medeleg 46079 = 0
 a6 : f.mode = 3 \/ bits .and .i64 (f.status / 131072) 1 ≠ 1
 ss : (((xcsrE X 256).1 : Nat) : Int) = bits .and .i64 f.status 786722
 si : (((xcsrE X 260).1 : Nat) : Int) = bits .and .i64 f.ie f.mideleg
 sp : (((xcsrE X 324).1 : Nat) : Int) = bits .and .i64 f.ip f.mideleg
 me : bits .and .i64 (((xcsrE X 833).1 : Nat) : Int) 1 = 0
 se : bits .and .i64 (((xcsrE X 321).1 : Nat) : Int) 1 = 0
 mt : bits .and .i64 (((xcsrE X 773).1 : Nat) : Int) 2 = 0
 st : bits .and .i64 (((xcsrE X 261).1 : Nat) : Int) 2 = 0
 pc : bits .and .i64 f.pc 1 = 0
 cy : (((xcsrE X 3072).1 : Nat) : Int) = f.cycle
 ir : (((xcsrE X 3074).1 : Nat) : Int) = f.ret
 mi : (xcsrE X 769).1 = 1075056901
 x0 : (regU X.x 0).1 = 0
theorem leg_of {X : XS} (hX : XInv X) {f : Fc} (fx : FcX X f) : Leg X f := by
 have h := hX.ok
 have st : f.status = ((X.c.mstatus : Nat) : Int) := fx.status
 have sm := h.mstatus
 have mm := h.mode
 have md := fx.mode
 refine ⟨by omega, ?_, andn0 (m := 8264106) st rfl sm (by decide) hX.mst, andn0 (m := 2730) (show f.ie = ((X.c.mie : Nat) : Int) from fx.ie) rfl h.mie (by decide) hX.mie, andn0 (m := 546) (show f.mideleg = ((X.c.mideleg : Nat) : Int) from fx.mideleg) rfl h.mideleg (by decide) hX.mid, andn0 (m := 46079) (show f.medeleg = ((X.c.medeleg : Nat) : Int) from fx.medeleg) rfl h.medeleg (by decide) hX.med, ?_, (andE (m := 786722) st rfl sm (by decide)).symm, (andE (show f.ie = ((X.c.mie : Nat) : Int) from fx.ie) (show f.mideleg = ((X.c.mideleg : Nat) : Int) from fx.mideleg) h.mie h.mideleg).symm, (andE (show f.ip = ((penD X : Nat) : Int) from fx.ip) (show f.mideleg = ((X.c.mideleg : Nat) : Int) from fx.mideleg) (pen_lt' hX) h.mideleg).symm, ?_, ?_, ?_, ?_, ?_, fx.cycle.symm, fx.ret.symm, rfl, ?_⟩
 . rw [andE (y := 3) (v := X.c.mstatus / 2048) (m := 3) (by rw [st]; rfl) rfl (by omega) (by decide), show X.c.mstatus / 2048 &&& 3 = X.c.mstatus / 2048 % 4 from Nat.and_two_pow_sub_one_eq_mod _ 2]
   have := h.mpp
   omega
 . by_cases h3 : X.mode = 3
   . left; omega
   . right
     have := hX.mpv h3
     rw [andE (y := 1) (v := X.c.mstatus / 131072) (m := 1) (by rw [st]; rfl) rfl (by omega) (by decide), Nat.and_one_is_mod]
     rw [Nat.testBit_eq_decide_div_mod_eq] at this
     simp at this
     omega
 . show bits .and .i64 ((X.c.mepc : Nat) : Int) 1 = 0
   rw [andE (y := 1) (v := X.c.mepc) (m := 1) rfl rfl h.mepc (by decide), and_ev hX.mep]; rfl
 . show bits .and .i64 ((X.c.sepc : Nat) : Int) 1 = 0
   rw [andE (y := 1) (v := X.c.sepc) (m := 1) rfl rfl h.sepc (by decide), and_ev hX.sep]; rfl
 . show bits .and .i64 ((X.c.mtvec : Nat) : Int) 2 = 0
   rw [andE (y := 2) (v := X.c.mtvec) (m := 2) rfl rfl h.mtvec (by decide), and_2 hX.mtv]; rfl
 . show bits .and .i64 ((X.c.stvec : Nat) : Int) 2 = 0
   rw [andE (y := 2) (v := X.c.stvec) (m := 2) rfl rfl h.stvec (by decide), and_2 hX.stv]; rfl
 . rw [andE (y := 1) (v := X.pc) (m := 1) fx.pc rfl h.pc (by decide), and_ev hX.pc2]; rfl
 . have := hX.x0
   unfold regU
   rw [List.getD_eq_getElem?_getD] at this
   simp [this]
set_option maxRecDepth 100000 in
theorem k_legal (mb rb fb : Nat) (X : XS) (hX : XInv X) (f : Fc) (fx : FcX X f) (w : World) (hs : Hid (Sl w fb f mb rb X w)) : CK 53 #[.pointer (some ⟨mb, 0, none⟩), .pointer (some ⟨fb, 0, none⟩)] (.bool true) w := by
 have L := leg_of hX fx
 have hO := hX.ok
 have C := hide1 (fun W n (hW : XAt W mb rb X) => k_csrV mb rb X hO n _ rfl W (hide1 hW))
 have CZ := hide1 (fun W (hW : Hid (XAt W mb rb X)) => k_regV mb rb X 0 0 L.x0 W hW)
 have LM := hide1 L.m
 have ⟨a1, a1'⟩ := beqF L.a1
 have ⟨a2, a2'⟩ := beqT L.a2
 have ⟨a3, a3'⟩ := beqT L.a3
 have ⟨a4, a4'⟩ := beqT L.a4
 have ⟨a5, a5'⟩ := beqT L.a5
 have A6 := hide1 L.a6
 have ⟨qss, qss'⟩ := beqT L.ss
 have ⟨qsi, qsi'⟩ := beqT L.si
 have ⟨qsp, qsp'⟩ := beqT L.sp
 have ⟨qme, qme'⟩ := beqT L.me
 have ⟨qse, qse'⟩ := beqT L.se
 have ⟨qmt, qmt'⟩ := beqT L.mt
 have ⟨qst, qst'⟩ := beqT L.st
 have ⟨qpc, qpc'⟩ := beqT L.pc
 have ⟨qcy, qcy'⟩ := beqT L.cy
 have ⟨qir, qir'⟩ := beqT L.ir
 have qmi : (((xcsrE X 769).1 : Int) == 1075056901) = true := by rw [L.mi]; rfl
 clear L hO hX fx
 go_enter func53, ntmps53
 have f0 := hs.out.1.cell 0 _ rfl
 have fl := hs.out.1.lt
 go_upto_region 1 with fail
 go_cut [34] (fun q wx => q = .bool false /\ wx = w)
 case first =>
  rcases beqC f.mode 0 with ⟨g0, g0'⟩ | ⟨g0, g0'⟩ <;> rcases beqC f.mode 1 with ⟨g1, g1'⟩ | ⟨g1, g1'⟩ <;> rcases beqC f.mode 3 with ⟨g3, g3'⟩ | ⟨g3, g3'⟩
  all_goals first | (exfalso; have := LM.out; simp at g0 g1 g3; omega) | skip
  all_goals
   as_aux_lemma =>
    exact zq391
 case rest =>
 obtain ⟨rfl, hwx⟩ := hcut
 rw [hwx]
 clear hwx f0 fl
 have f0 := hs.out.1.cell 0 _ rfl
 have f2 := hs.out.1.cell 2 _ rfl
 have f3 := hs.out.1.cell 3 _ rfl
 have f5 := hs.out.1.cell 5 _ rfl
 have f6 := hs.out.1.cell 6 _ rfl
 have fl := hs.out.1.lt
 go_upto_region 3 with fail
 go_cut [73] (fun q wx => q = .bool false /\ wx = w)
 case first =>
  as_aux_lemma =>
   exact zq391
 case rest =>
 obtain ⟨rfl, hwx⟩ := hcut
 rw [hwx]
 clear hwx
 go_upto_region 5 with fail
 go_cut [87] (fun q wx => q = .bool false /\ wx = w)
 case first =>
  rcases beqC f.mode 3 with ⟨g3, g3'⟩ | ⟨g3, g3'⟩ <;> rcases beqC (bits .and .i64 (f.status / 131072) 1) 1 with ⟨g1, g1'⟩ | ⟨g1, g1'⟩
  all_goals first | (exfalso; have := A6.out; simp at g3 g1; simp [g3, g1] at this; done) | skip
  all_goals
   as_aux_lemma =>
    exact zq391
 case rest =>
 obtain ⟨rfl, hwx⟩ := hcut
 rw [hwx]
 clear hwx f0 f2 f3 f5 f6 fl a1 a1' a2 a2' a3 a3' a4 a4' a5 a5'
 have s := hs
 clear hs
 go_wp2_with fail
 refine (C.out _ _ s.out.2.1).mono ?_
 rintro o w4 ⟨rfl, hk⟩
 replace s := hide1 (s.out.kept hk)
 clear hk
 go_wp2_with fail
 refine (C.out _ _ s.out.2.1).mono ?_
 rintro o w4 ⟨rfl, hk⟩
 replace s := hide1 (s.out.kept hk)
 clear hk
 go_wp2_with fail
 refine (C.out _ _ s.out.2.1).mono ?_
 rintro o w4 ⟨rfl, hk⟩
 replace s := hide1 (s.out.kept hk)
 clear hk
 have f2 := s.out.1.cell 2 _ rfl
 have f3 := s.out.1.cell 3 _ rfl
 have f4 := s.out.1.cell 4 _ rfl
 have f5 := s.out.1.cell 5 _ rfl
 have fl := s.out.1.lt
 go_upto_region 10 with fail
 go_cut [126] (fun q wx => q = .bool false /\ Hid (Sl w fb f mb rb X wx))
 case first =>
  exact zq392
 case rest =>
 obtain ⟨rfl, s1⟩ := hcut
 clear s f2 f3 f4 f5 fl qss qss' qsi qsi' qsp qsp'
 have s := s1
 clear s1
 go_wp2_with fail
 refine (C.out _ _ s.out.2.1).mono ?_
 rintro o w4 ⟨rfl, hk⟩
 replace s := hide1 (s.out.kept hk)
 clear hk
 go_wp2_with fail
 refine (C.out _ _ s.out.2.1).mono ?_
 rintro o w4 ⟨rfl, hk⟩
 replace s := hide1 (s.out.kept hk)
 clear hk
 go_wp2_with fail
 refine (C.out _ _ s.out.2.1).mono ?_
 rintro o w4 ⟨rfl, hk⟩
 replace s := hide1 (s.out.kept hk)
 clear hk
 go_wp2_with fail
 refine (C.out _ _ s.out.2.1).mono ?_
 rintro o w4 ⟨rfl, hk⟩
 replace s := hide1 (s.out.kept hk)
 clear hk
 have f1 := s.out.1.cell 1 _ rfl
 have fl := s.out.1.lt
 go_upto_region 16 with fail
 go_cut [160] (fun q wx => q = .bool false /\ Hid (Sl w fb f mb rb X wx))
 case first =>
  as_aux_lemma =>
   go_wp2_with fail
   all_goals
    go_meet
    case rel => exact ⟨rfl, s⟩
 case rest =>
 obtain ⟨rfl, s1⟩ := hcut
 clear s f1 fl
 have s := s1
 clear s1
 go_wp2_with fail
 refine (C.out _ _ s.out.2.1).mono ?_
 rintro o w4 ⟨rfl, hk⟩
 replace s := hide1 (s.out.kept hk)
 clear hk
 go_wp2_with fail
 refine (C.out _ _ s.out.2.1).mono ?_
 rintro o w4 ⟨rfl, hk⟩
 replace s := hide1 (s.out.kept hk)
 clear hk
 go_wp2_with fail
 refine (C.out _ _ s.out.2.1).mono ?_
 rintro o w4 ⟨rfl, hk⟩
 replace s := hide1 (s.out.kept hk)
 clear hk
 go_wp2_with fail
 refine (CZ.out _ (hide1 s.out.2.1)).mono ?_
 rintro o wz ⟨rfl, hwz⟩
 rw [hwz]
 clear hwz wz CZ
 have f9 := s.out.1.cell 9 _ rfl
 have f11 := s.out.1.cell 11 _ rfl
 have fl := s.out.1.lt
 go_wp2_with fail
 go_ret
 exact ⟨rfl, s.out.2.2⟩
end
theorem holds_at {a n L : Nat} (h : holdsD (a : Nat) (n : Nat) L = true) : 2147483648 <= a /\ a - 2147483648 + n <= L /\ 1 <= n := by
 unfold holdsD at h
 simp at h
 omega
def mineB (C : CsrS) (e : Nat) : Bool := bif bitN e 4 then (decide (C.mode = 0) || (decide (C.mode = 1) && decide (C.sum = 1))) else !decide (C.mode = 0)
theorem all_mine (C : CsrS) (e k : Nat) (h : allD C e k C.mode = true) (hm : C.mode = 0 \/ C.mode = 1) : mineB C e = true /\ (k = 2 -> bitN e 2 = true) := by
 revert h
 unfold allD allB mineB
 rcases hm with h0 | h0 <;> rw [h0] <;> cases bitN e 4 <;> cases bitN e 1 <;> cases bitN e 2 <;> cases bitN e 3 <;> by_cases hs : C.sum = 1 <;> by_cases k0 : k = 0 <;> by_cases k1 : k = 1 <;> simp [hs, k0, k1] <;> omega
def isLf (e : Nat) : Prop := bitN e 0 = true /\ (bitN e 1 = true \/ bitN e 3 = true)
structure EntOf (B : BusS) (P a e : Nat) : Prop where
 pg : a / 4096 = P
 al : a % 4 = 0
 h : holdsD (a : Nat) 4 B.ram.length = true
 e : entE B a = e
structure Clo (T A W F : Nat -> Prop) (C : CsrS) (B : BusS) : Prop where
 root : T (C.satp % 4194304)
 l1 : ∀ a e, EntOf B (C.satp % 4194304) a e -> isLf e -> F a /\ (mineB C e = true -> ∀ k, k < 1024 -> A (e / 1024 + k) /\ (bitN e 2 = true -> W (e / 1024 + k)))
 pt : ∀ a e, EntOf B (C.satp % 4194304) a e -> bitN e 0 = true -> bitN e 1 = false -> bitN e 3 = false -> T (e / 1024) /\ ∀ a' e', EntOf B (e / 1024) a' e' -> isLf e' -> F a' /\ (mineB C e' = true -> A (e' / 1024) /\ (bitN e' 2 = true -> W (e' / 1024)))
def mkA (B : BusS) (a k : Nat) : BusS := if adB (bitN (entE B a) 6) (bitN (entE B a) 7) k = 0 then B else { B with ram := stN B.ram (a - 2147483648) 4 (entE B a + adB (bitN (entE B a) 6) (bitN (entE B a) 7) k) }
theorem mkA_len (B : BusS) (a k : Nat) : (mkA B a k).ram.length = B.ram.length := by
 unfold mkA; split
 . rfl
 . exact stN_length _ _ _ _
theorem ad_bits (e k : Nat) : (∀ i, i < 6 -> bitN (e + adB (bitN e 6) (bitN e 7) k) i = bitN e i) /\ (e + adB (bitN e 6) (bitN e 7) k) / 1024 = e / 1024 /\ (e < 4294967296 -> e + adB (bitN e 6) (bitN e 7) k < 4294967296) := by
 obtain ⟨d, hd⟩ := zn1 (adB (bitN e 6) (bitN e 7) k)
 rw [<- hd]
 have hd' : d = 0 \/ (d = 64 /\ e / 64 % 2 = 0) \/ (d = 128 /\ e / 128 % 2 = 0) \/ (d = 192 /\ e / 64 % 2 = 0 /\ e / 128 % 2 = 0) := by
  rw [hd]
  unfold adB bitN
  by_cases h6 : e / 64 % 2 = 1 <;> by_cases h7 : e / 128 % 2 = 1 <;> by_cases hk : k = 2 <;> simp [h6, h7, hk] <;> omega
 clear hd
 refine ⟨fun i hi => ?_, by omega, by omega⟩
 unfold bitN
 rw [decide_eq_decide]
 have hi' : i = 0 \/ i = 1 \/ i = 2 \/ i = 3 \/ i = 4 \/ i = 5 := by omega
 rcases hi' with rfl | rfl | rfl | rfl | rfl | rfl <;> simp <;> omega
theorem st_get : ∀ (n : Nat) (r : List UInt8) (p v j : Nat), p + n <= r.length -> (stN r p n v)[j]? = if p <= j /\ j < p + n then some (UInt8.ofNat (v / 256 ^ (j - p))) else r[j]?
 | 0, r, p, v, j, h => by rw [if_neg (by omega)]; rfl
 | n + 1, r, p, v, j, h => by
  simp only [stN]
  rw [st_get n _ _ _ _ (by simp; omega)]
  by_cases h1 : p + 1 <= j /\ j < p + 1 + n
  . rw [if_pos h1, if_pos (by omega), Nat.div_div_eq_div_mul, <- Nat.pow_succ', show (j - (p + 1)).succ = j - p by omega]
  . rw [if_neg h1]
    by_cases h2 : j = p
    . subst h2
      rw [List.getElem?_set_self (by omega), if_pos (by omega), Nat.sub_self]; simp
    . rw [List.getElem?_set_ne (by omega), if_neg (by omega)]
theorem ld_of (l : List UInt8) (a b c d : UInt8) (h : l = [a, b, c, d]) : ldN l = a.toNat + 256 * (b.toNat + 256 * (c.toNat + 256 * d.toNat)) := by subst h; simp [ldN]
theorem u8n (v : Nat) : (UInt8.ofNat v).toNat = v % 256 := by simp [UInt8.toNat_ofNat']
theorem rd_st (B : BusS) (p q v : Nat) (hp : p + 4 <= B.ram.length) (hv : v < 4294967296) (hd : p = q \/ p + 4 <= q \/ q + 4 <= p) (hq : q + 4 <= B.ram.length) : rdRam { B with ram := stN B.ram p 4 v } q 4 = if p = q then v else rdRam B q 4 := by
 unfold rdRam
 dsimp only
 by_cases h : p = q
 . subst h
   rw [if_pos rfl]
   have e : ((stN B.ram p 4 v).drop p).take 4 = [UInt8.ofNat v, UInt8.ofNat (v / 256), UInt8.ofNat (v / 65536), UInt8.ofNat (v / 16777216)] := by
    apply List.ext_getElem?
    intro i
    rw [List.getElem?_take]
    by_cases hi : i < 4
    . rw [if_pos hi, List.getElem?_drop, st_get _ _ _ _ _ hp, if_pos (by omega), show p + i - p = i by omega]
      have : i = 0 \/ i = 1 \/ i = 2 \/ i = 3 := by omega
      rcases this with rfl | rfl | rfl | rfl <;> simp
    . exact zq393
   rw [ld_of _ _ _ _ _ e, u8n, u8n, u8n, u8n]
   omega
 . rw [if_neg h]
   congr 1
   apply List.ext_getElem?
   intro i
   rw [List.getElem?_take, List.getElem?_take]
   by_cases hi : i < 4
   . rw [if_pos hi, if_pos hi, List.getElem?_drop, List.getElem?_drop, st_get _ _ _ _ _ hp, if_neg (by omega)]
   . rw [if_neg hi, if_neg hi]
theorem ent_mk (B : BusS) (a k a' : Nat) (h : holdsD (a : Nat) 4 B.ram.length = true) (h' : holdsD (a' : Nat) 4 B.ram.length = true) (ha : a % 4 = 0) (ha' : a' % 4 = 0) : entE (mkA B a k) a' = if a = a' then entE B a + adB (bitN (entE B a) 6) (bitN (entE B a) 7) k else entE B a' := by
 have q1 := holdsD_at h
 have q2 := holdsD_at h'
 unfold mkA
 split
 . next h0 =>
   rw [h0]
   split
   . next e => rw [e, Nat.add_zero]
   . rfl
 . have := rd_st B (a - 2147483648) (a' - 2147483648) (entE B a + adB (bitN (entE B a) 6) (bitN (entE B a) 7) k) q1.2 ((ad_bits _ _).2.2 (entE_lt _ _)) (by omega) q2.2
   unfold entE at this |-
   rw [this]
   by_cases e : a = a'
   . rw [if_pos e, if_pos (by omega)]
   . rw [if_neg e, if_neg (by omega)]
structure Alike (e e' : Nat) : Prop where
 b : ∀ i, i < 6 -> bitN e' i = bitN e i
 p : e' / 1024 = e / 1024
theorem Alike.lf {e e' : Nat} (h : Alike e e') : isLf e' -> isLf e := by
 unfold isLf; rw [h.b 0 (by omega), h.b 1 (by omega), h.b 3 (by omega)]; exact id
theorem Alike.mine {e e' : Nat} (h : Alike e e') (C : CsrS) : mineB C e' = mineB C e := by unfold mineB; rw [h.b 4 (by omega)]
theorem EntOf.back {B : BusS} {P a' e' a k : Nat} (h : EntOf (mkA B a k) P a' e') (ha : holdsD (a : Nat) 4 B.ram.length = true) (hl : a % 4 = 0) : ∃ e, EntOf B P a' e /\ Alike e e' := by
 have h2 := h.h
 rw [mkA_len] at h2
 refine ⟨_, ⟨h.pg, h.al, h2, rfl⟩, ?_⟩
 have e := h.e
 rw [ent_mk B a k a' ha h2 hl h.al] at e
 rw [<- e]
 split
 . next q => rw [<- q]; exact ⟨(ad_bits _ _).1, (ad_bits _ _).2.1⟩
 . exact ⟨fun _ _ => rfl, rfl⟩
theorem Clo.mk' {T A W F : Nat -> Prop} {C : CsrS} {B : BusS} (h : Clo T A W F C B) (a k : Nat) (ha : holdsD (a : Nat) 4 B.ram.length = true) (hl : a % 4 = 0) : Clo T A W F C (mkA B a k) := by
 refine ⟨h.root, fun a' e' q hlf => ?_, fun a' e' q b0 b1 b3 => ?_⟩
 . obtain ⟨e, q', al⟩ := q.back ha hl
   have := h.l1 a' e q' (al.lf hlf)
   rw [al.mine, al.p, al.b 2 (by omega)]
   exact this
 . obtain ⟨e, q', al⟩ := q.back ha hl
   rw [al.b 0 (by omega)] at b0
   rw [al.b 1 (by omega)] at b1
   rw [al.b 3 (by omega)] at b3
   have := h.pt a' e q' b0 b1 b3
   rw [al.p]
   refine ⟨this.1, fun a2 e2 r hlf => ?_⟩
   obtain ⟨e3, r', al2⟩ := r.back ha hl
   have := this.2 a2 e3 r' (al2.lf hlf)
   rw [al2.mine, al2.p, al2.b 2 (by omega)]
   exact this
structure TrOk (T A W F : Nat -> Prop) (C : CsrS) (B : BusS) (va k : Nat) (t : (Nat × Nat) × BusS) : Prop where
 clo : Clo T A W F C t.2
 mkd : t.2 = B \/ ∃ a, F a /\ T (a / 4096) /\ a % 4 = 0 /\ holdsD (a : Nat) 4 B.ram.length = true /\ t.2 = mkA B a k
 pg : t.1.2 = 0 -> A (t.1.1 / 4096) /\ (k = 2 -> W (t.1.1 / 4096)) /\ t.1.1 % 4096 = va % 4096
theorem TrOk.no {T A W F : Nat -> Prop} {C : CsrS} {B : BusS} (h : Clo T A W F C B) (va k f : Nat) (hf : f ≠ 0) : TrOk T A W F C B va k ((0, f), B) := ⟨h, .inl rfl, fun e => absurd e hf⟩
theorem leaf_ok' {T A W F : Nat -> Prop} {C : CsrS} {B : BusS} (h : Clo T A W F C B) (hm : C.mode = 0 \/ C.mode = 1) (a e lvl va k : Nat) (he : entE B a = e) (hh : holdsD (a : Nat) 4 B.ram.length = true) (al : a % 4 = 0) (hF : F a) (hT : T (a / 4096)) (hv : lvl = 0 \/ lvl = 1)
 (hA : mineB C e = true -> ∀ j, j < (if lvl = 1 then 1024 else 1) -> A (e / 1024 + j) /\ (bitN e 2 = true -> W (e / 1024 + j))) : TrOk T A W F C B va k (leafD B C e a lvl va k C.mode) := by
 unfold leafD
 split
 . exact .no h _ _ 1 (by omega)
 split
 . exact .no h _ _ 1 (by omega)
 . next h1 h2 =>
   have hm2 := all_mine C e k (by simpa using h1) hm
   refine ⟨?_, .inr ⟨a, hF, hT, al, hh, ?_⟩, fun _ => ?_⟩
   . have := h.mk' a k hh al
     unfold mkA at this
     rw [he] at this
     exact this
   . unfold mkA
     rw [he]
   . dsimp only
     have q : (e / 1024 * 4096 + va % spanN lvl) / 4096 = e / 1024 + va % spanN lvl / 4096 /\ (e / 1024 * 4096 + va % spanN lvl) % 4096 = va % 4096 /\ va % spanN lvl / 4096 < (if lvl = 1 then 1024 else 1) := by
      rcases hv with rfl | rfl
      . simp [spanN]; omega
      . simp [spanN]; omega
     rw [q.1, q.2.1]
     have := hA hm2.1 _ q.2.2
     exact ⟨this.1, fun k2 => this.2 (hm2.2 k2), rfl⟩
theorem ent_pg (P va lvl : Nat) : entA (P * 4096) va lvl / 4096 = P /\ entA (P * 4096) va lvl % 4 = 0 := by
 unfold entA
 obtain ⟨x, hx⟩ := zn1 (va / spanN lvl % 1024)
 have : x < 1024 := by rw [hx]; omega
 rw [<- hx]
 omega
theorem walk_ok' {T A W F : Nat -> Prop} {C : CsrS} {B : BusS} (h : Clo T A W F C B) (hm : C.mode = 0 \/ C.mode = 1) (va k : Nat) : TrOk T A W F C B va k (walk1 B C (C.satp % 4194304 * 4096) va k C.mode) := by
 have p1 := ent_pg (C.satp % 4194304) va 1
 have n1 : TrOk T A W F C B va k ((0, 1), B) := .no h _ _ 1 (by omega)
 have n2 : TrOk T A W F C B va k ((0, 2), B) := .no h _ _ 2 (by omega)
 unfold walk1
 split
 . exact n2
 next h1 =>
 have E1 : EntOf B (C.satp % 4194304) (entA (C.satp % 4194304 * 4096) va 1) (entE B (entA (C.satp % 4194304 * 4096) va 1)) := ⟨p1.1, p1.2, by simpa using h1, rfl⟩
 obtain ⟨a, ha⟩ := zn1 (entA (C.satp % 4194304 * 4096) va 1)
 rw [<- ha] at E1 p1 |-
 obtain ⟨e, he⟩ := zn1 (entE B a)
 rw [<- he] at E1 |-
 split
 . exact n1
 next h2 =>
 have b0 : bitN e 0 = true := by
  cases hb : bitN e 0
  . exact absurd (.inl hb) h2
  . rfl
 split
 . next h3 =>
   split
   . exact n1
   have PT := h.pt a e E1 b0 h3.1 h3.2
   have p2 := ent_pg (e / 1024) va 0
   unfold walk0
   split
   . exact n2
   next g1 =>
   have E2 : EntOf B (e / 1024) (entA (e / 1024 * 4096) va 0) (entE B (entA (e / 1024 * 4096) va 0)) := ⟨p2.1, p2.2, by simpa using g1, rfl⟩
   obtain ⟨a', ha'⟩ : ∃ a', a' = entA (e / 1024 * 4096) va 0 := ⟨_, rfl⟩
   rw [<- ha'] at E2 p2 |-
   obtain ⟨e', he'⟩ : ∃ e', e' = entE B a' := ⟨_, rfl⟩
   rw [<- he'] at E2 |-
   split
   . exact n1
   next g2 =>
   split
   . exact n1
   next g3 =>
   have lf : isLf e' := by
    unfold isLf
    cases q0 : bitN e' 0 <;> cases q1 : bitN e' 1 <;> cases q3 : bitN e' 3 <;> simp [q0, q1, q3] at g2 g3 |-
   have := PT.2 a' e' E2 lf
   refine leaf_ok' h hm a' e' 0 va k he'.symm E2.h E2.al this.1 (by rw [E2.pg]; exact PT.1) (.inl rfl) (fun q j hj => ?_)
   have j0 : j = 0 := by simpa using hj
   subst j0
   exact this.2 q
 . next h3 =>
   have lf : isLf e := by
    unfold isLf
    refine ⟨b0, ?_⟩
    cases q1 : bitN e 1 <;> cases q3 : bitN e 3 <;> simp [q1, q3] at h3 |-
   have := h.l1 a e E1 lf
   exact leaf_ok' h hm a e 1 va k he.symm E1.h E1.al this.1 (by rw [E1.pg]; exact h.root) (.inr rfl) (fun q j hj => this.2 q j (by simpa using hj))
structure Pgd (C : CsrS) : Prop where
 m : C.mode = 0 \/ C.mode = 1
 v : C.mprv = 0
 s : 2147483648 <= C.satp
theorem Pgd.pg {C : CsrS} (h : Pgd C) (k : Nat) : pgD C k = true /\ actsD C k = C.mode := by
 have ha : actsD C k = C.mode := by
  unfold actsD
  have := h.v
  split
  . rfl
  . rw [if_neg (by simp; omega)]
 unfold pgD
 rw [ha]
 have h1 : C.mode < 3 := by have := h.m; omega
 have h2 := h.s
 exact ⟨by simp [h1, h2], rfl⟩
theorem tr_ok' {T A W F : Nat -> Prop} {C : CsrS} {B : BusS} (h : Clo T A W F C B) (hm : Pgd C) (va k : Nat) : TrOk T A W F C B va k (trD B C va k) := by
 unfold trD
 rw [if_pos (hm.pg k).1, (hm.pg k).2]
 exact walk_ok' h hm.m va k
theorem or_z (h : Nat) : h ||| (0 : Int).toNat = h := Nat.or_zero h
theorem step_is {X : XS} (h : XInv X) :
 ((stepX X).1 = (3, 0) /\ askD X = 0 /\ (stepX X).2 = cntX X false X.c.minh) \/
 (∃ c : Nat, intD X = c /\ (stepX X).1 = (2, (c : Int)) /\ (stepX X).2 = cntX (tiX (wakX X) c) false X.c.minh) \/
 (intD X = -1 /\ (insX (wakX X)).1.2.1 = -1 /\ (stepX X).1 = (0, 0) /\ (stepX X).2 = cntX (insX (wakX X)).2 true (X.c.minh ||| (cwrD (insX (wakX X)).1.1).toNat)) \/
 (intD X = -1 /\ ∃ c : Nat, c < 16 /\ (insX (wakX X)).1.2.1 = c /\ (stepX X).1 = (1, (c : Int)) /\ (stepX X).2 = cntX (teX (insX (wakX X)).2 c (insX (wakX X)).1.2.2) false X.c.minh) := by
 have hi := ins_inv (wak_inv h)
 have e : intD (wakX X) = intD X := rfl
 have hm := int_in X
 unfold stepX actX
 rw [e]
 by_cases h1 : (X.waits && decide (askD X = 0)) = true
 . rw [if_pos h1]
   left
   simp at h1
   exact ⟨rfl, h1.2, by dsimp only; rw [or_z]; rfl⟩
 rw [if_neg h1]
 by_cases h2 : intD X = -1
 . rw [if_pos h2]
   right; right
   unfold actE
   by_cases h3 : (insX (wakX X)).1.2.1 = -1
   . left
     rw [if_pos h3]
     exact ⟨h2, h3, rfl, rfl⟩
   . right
     rw [if_neg h3]
     refine ⟨h2, (insX (wakX X)).1.2.1.toNat, by omega, by omega, ?_, ?_⟩
     . dsimp only; congr 1; omega
     . dsimp only; rw [or_z]; rfl
 . rw [if_neg h2]
   right; left
   refine ⟨(intD X).toNat, by omega, ?_, ?_⟩
   . dsimp only; congr 1; omega
   . dsimp only; rw [or_z]; rfl
theorem cro_exc (X : XS) (i : NI) (v : Nat) (h : (croX X i v).1.1 ≠ -1) : ∃ B, (croX X i v).2 = X.withB B := by
 revert h
 unfold croX
 split
 . exact zq394
 split
 . exact zq394
 split
 . unfold ldX ldF
   exact zq395
 split
 . unfold stX stF
   exact zq395
 split
 . unfold atX
   split
   . unfold atF
     exact zq395
   . exact fun _ => ⟨X.b, rfl⟩
 split
 . exact fun _ => ⟨X.b, rfl⟩
 split
 . exact fun _ => ⟨X.b, rfl⟩
 split
 . exact zq394
 split
 . exact zq394
 exact fun _ => ⟨X.b, rfl⟩
theorem ins_exc (X : XS) (h : (insX X).1.2.1 ≠ -1) : ∃ B, (insX X).2 = X.withB B := by
 revert h
 unfold insX
 split
 . split
   . unfold insR
     split
     . next h1 => exact fun h => absurd h1 h
     . next h1 =>
       intro _
       obtain ⟨B, e⟩ := cro_exc _ _ _ h1
       exact ⟨B, e⟩
   . exact zq396
 . exact zq396
theorem ins_ret (X : XS) (h : (insX X).1.2.1 = -1) : (fetchD X.b (xC X) X.pc).1.f = 0 /\ (decodeD (fetchD X.b (xC X) X.pc).1.w).2 = 0 /\
 (croX (X.withB (fetchD X.b (xC X) X.pc).2) (niOf (decodeD (fetchD X.b (xC X) X.pc).1.w).1) (fetchD X.b (xC X) X.pc).1.w).1.1 = -1 /\
 insX X = ((niOf (decodeD (fetchD X.b (xC X) X.pc).1.w).1, (croX (X.withB (fetchD X.b (xC X) X.pc).2) (niOf (decodeD (fetchD X.b (xC X) X.pc).1.w).1) (fetchD X.b (xC X) X.pc).1.w).1), { (croX (X.withB (fetchD X.b (xC X) X.pc).2) (niOf (decodeD (fetchD X.b (xC X) X.pc).1.w).1) (fetchD X.b (xC X) X.pc).1.w).2 with pc := npcD (X.withB (fetchD X.b (xC X) X.pc).2) (niOf (decodeD (fetchD X.b (xC X) X.pc).1.w).1) }) := by
 revert h
 unfold insX
 split
 . next h1 =>
   split
   . next h2 =>
     unfold insR
     split
     . next h3 => exact fun _ => ⟨h1, h2, h3, rfl⟩
     . next h3 => exact fun h => absurd h h3
   . exact fun h => absurd h zq526
 . have := fau_in (fetchD X.b (xC X) X.pc).1.f 0
   exact fun h => absurd h zq540
theorem ccr_mode (X : XS) (i : NI) : (ccrX X i).mode = X.mode := by
 have hs : ∀ d v, (setXR X d v).mode = X.mode := by intro d v; unfold setXR; split <;> rfl
 have ite : ∀ {c : Prop} [Decidable c] {Y Z : XS} {m : Nat}, Y.mode = m -> Z.mode = m -> (if c then Y else Z).mode = m := by
  intro c _ Y Z m h1 h2; split <;> assumption
 exact zq397
theorem cro_mode (X : XS) (i : NI) (v : Nat) (h1 : i.op ≠ 67) (h2 : i.op ≠ 68) : (croX X i v).2.mode = X.mode := by
 have hs : ∀ (Y : XS) d v, (setXR Y d v).mode = Y.mode := by intro Y d v; unfold setXR; split <;> rfl
 unfold croX
 split
 . exact hs _ _ _
 split
 . rfl
 split
 . unfold ldX ldF; split
   . exact hs _ _ _
   . rfl
 split
 . unfold stX stF; split <;> rfl
 split
 . unfold atX atF
   split
   . split
     . unfold atG lrX scX amoX
       dsimp only
       split
       . exact hs _ _ _
       . split
         . show (setXR _ _ _).mode = _
           rw [hs]
           cases scB (X.withB (wordAtD X.b (xC X) (X.x.getD i.rs1 0) (kD i.op)).2) (wordAtD X.b (xC X) (X.x.getD i.rs1 0) (kD i.op)).1.1 <;> rfl
         . exact hs _ _ _
     . rfl
   . rfl
 split
 . rfl
 split
 . rfl
 split
 . exact ccr_mode X i
 split
 . unfold prvX
   rw [if_neg h1, if_neg h2]
   split <;> rfl
 . rfl
theorem cro_ops (X : XS) (i : NI) (v : Nat) (h : (croX X i v).1.1 = -1) : i.op ≠ 0 /\ i.op ≠ 40 /\ i.op ≠ 41 /\ (i.op = 67 \/ i.op = 68 -> mdoB X i.op = true /\ (croX X i v).2 = prvX X i.op) := by
 have key : ∀ op : Int, op = i.op -> op = 0 \/ op = 40 \/ op = 41 \/ op = 67 \/ op = 68 -> xresD op = false /\ ¬ ((5 <= op /\ op <= 10) \/ op = 38 \/ op = 39) /\ ¬ (11 <= op /\ op <= 15) /\ ¬ (16 <= op /\ op <= 18) /\ ¬ (50 <= op /\ op <= 60) /\ ¬ (61 <= op /\ op <= 66) := by
  intro op _ ho
  refine ⟨?_, by omega, by omega, by omega, by omega, by omega⟩
  unfold xresD
  simp
  omega
 by_cases ho : i.op = 0 \/ i.op = 40 \/ i.op = 41 \/ i.op = 67 \/ i.op = 68
 . obtain ⟨k1, k2, k3, k4, k5, k6⟩ := key _ rfl ho
   unfold croX at h |-
   rw [if_neg (by rw [k1]; decide), if_neg k2, if_neg k3, if_neg k4, if_neg k5] at h |-
   rw [if_neg (fun q : (61 <= i.op /\ i.op <= 66) /\ mayB X i = true => k6 q.1)] at h |-
   by_cases h40 : i.op = 40
   . rw [if_pos h40] at h; exact absurd h zq540
   by_cases h41 : i.op = 41
   . rw [if_neg h40, if_pos h41] at h; exact absurd h zq526
   rw [if_neg h40, if_neg h41] at h |-
   by_cases hd : (67 <= i.op /\ i.op <= 70) /\ mdoB X i.op = true
   . rw [if_pos hd]
     exact ⟨by omega, h40, h41, fun _ => ⟨hd.2, rfl⟩⟩
   . rw [if_neg hd] at h; exact absurd h zq526
 . exact ⟨by omega, by omega, by omega, fun q => absurd q (by omega)⟩
theorem xres_no {op : Int} (h : ¬ xresD op = true) : ¬ ((1 <= op /\ op <= 4) \/ (19 <= op /\ op <= 37) \/ (42 <= op /\ op <= 49)) := by unfold xresD at h; simpa using h
theorem cro_causes (X : XS) (i : NI) (v : Nat) (c : Nat) (h : (croX X i v).1.1 = c) : (c = 2 /\ (i.op >= 61 \/ i.op < 1 \/ 70 < i.op)) \/ (c = 3 /\ i.op = 41) \/ (c = 8 + X.mode /\ i.op = 40) \/ (c = 4 /\ i.op = 50) \/ (c = 6 /\ 51 <= i.op /\ i.op <= 60) \/ ((c = 5 \/ c = 13) /\ ((11 <= i.op /\ i.op <= 15) \/ i.op = 50)) \/ ((c = 7 \/ c = 15) /\ ((16 <= i.op /\ i.op <= 18) \/ (51 <= i.op /\ i.op <= 60))) := by
 revert h
 unfold croX
 split
 . exact zq398
 next g1 =>
 split
 . exact zq398
 next g2 =>
 split
 . next g =>
   unfold ldX ldF xfauD
   split
   . exact zq398
   . dsimp only
     intro h
     have : c = 5 \/ c = 13 := by
      rw [if_neg (by decide), if_pos rfl] at h
      split at h <;> omega
     omega
 next g3 =>
 split
 . next g =>
   unfold stX stF xfauD
   split
   . exact zq398
   . dsimp only
     intro h
     exact zq399
 next g4 =>
 split
 . next g =>
   unfold atX
   split
   . unfold atF xfauD
     split
     . exact zq398
     . dsimp only
       unfold kD
       intro h
       by_cases h50 : i.op = 50
       . simp only [if_pos h50] at h
         have : c = 5 \/ c = 13 := by
          rw [if_neg (by decide), if_pos (by decide)] at h
          split at h <;> omega
         omega
       . simp only [if_neg h50] at h
         exact zq399
   . unfold xalgD kD
     dsimp only
     intro h
     by_cases h50 : i.op = 50
     . simp only [if_pos h50] at h
       rw [if_pos (by decide)] at h
       omega
     . simp only [if_neg h50] at h
       rw [if_neg (by decide)] at h
       omega
 next g5 =>
 split
 . intro h; dsimp only at h; omega
 next g6 =>
 split
 . intro h; dsimp only at h; omega
 next g7 =>
 split
 . exact zq398
 split
 . exact zq398
 . intro h
   have h2 : (2 : Int) = c := h
   have g1' := xres_no g1
   left
   refine ⟨by omega, ?_⟩
   clear h h2
   omega
section
attribute [local go_sem ↓] Go.wp_at_zero Go.wp_at_succ
theorem w64 (a : Nat) (h : a < 4294967296) : wrap64 (a : Int) = (a : Int) := by
 unfold wrap64
 omega
theorem or_hi' (a u k : Nat) (h : a < 2 ^ k) (hu : u * 2 ^ k + a < 9223372036854775808) : bits .or .i64 (a : Int) ((u * 2 ^ k : Nat) : Int) = ((a + u * 2 ^ k : Nat) : Int) := by
 rw [b_or _ _ (by omega) (by omega), Nat.or_comm, Nat.mul_comm, <- Nat.two_pow_add_eq_or_of_lt h, Nat.add_comm]
def leW' (a b c d : Nat) : Nat := a + 256 * (b + 256 * (c + 256 * d))
theorem le_exact' (a b c d : Nat) (ha : a < 256) (hb : b < 256) (hc : c < 256) (hd : d < 256) : bits .or .i64 (bits .or .i64 (bits .or .i64 (wrap64 a) (wrap64 (wrap64 b * 256))) (wrap64 (wrap64 c * 65536))) (wrap64 (wrap64 d * 16777216)) = (leW' a b c d : Int) := by
 have w1 : wrap64 (wrap64 (b : Int) * 256) = ((b * 2 ^ 8 : Nat) : Int) := by rw [w64 b (by omega), <- w64 (b * 2 ^ 8) (by omega)]; simp
 have w2 : wrap64 (wrap64 (c : Int) * 65536) = ((c * 2 ^ 16 : Nat) : Int) := by rw [w64 c (by omega), <- w64 (c * 2 ^ 16) (by omega)]; simp
 have w3 : wrap64 (wrap64 (d : Int) * 16777216) = ((d * 2 ^ 24 : Nat) : Int) := by rw [w64 d (by omega), <- w64 (d * 2 ^ 24) (by omega)]; simp
 have e1 := or_hi' a b 8 (by omega) (by omega)
 have e2 := or_hi' (a + b * 2 ^ 8) c 16 (by omega) (by omega)
 have e3 := or_hi' (a + b * 2 ^ 8 + c * 2 ^ 16) d 24 (by omega) (by omega)
 rw [w1, w2, w3, w64 a (by omega), e1, e2, e3]
 unfold leW'; omega
def ldS (s : ByteArray) (n : Nat) : Nat := ldN ((s.data.toList.drop n).take 4)
theorem ldS_eq (s : ByteArray) (n : Nat) (h : n + 4 <= s.size) : ldS s n = leW' (s[n]'(by omega)).toNat (s[n + 1]'(by omega)).toNat (s[n + 2]'(by omega)).toNat (s[n + 3]'(by omega)).toNat := by
 have hl : s.data.toList.length = s.size := by simp
 unfold ldS
 rw [show (s.data.toList.drop n).take 4 = [s[n]'(by omega), s[n + 1]'(by omega), s[n + 2]'(by omega), s[n + 3]'(by omega)] from ?_]
 . unfold leW'; simp [ldN]
 . apply List.ext_getElem?
   intro i
   rw [List.getElem?_take]
   by_cases hi : i < 4
   . rw [if_pos hi, List.getElem?_drop, List.getElem?_eq_getElem (by omega)]
     have : i = 0 \/ i = 1 \/ i = 2 \/ i = 3 := by omega
     rcases this with rfl | rfl | rfl | rfl <;> rfl
   . exact zq393
theorem ldS_lt (s : ByteArray) (n : Nat) : ldS s n < 4294967296 := by
 unfold ldS
 have h := ldN_lt ((s.data.toList.drop n).take 4)
 have h2 : 256 ^ ((s.data.toList.drop n).take 4).length <= 256 ^ 4 := Nat.pow_le_pow_right (by omega) (by simp; omega)
 omega
set_option maxRecDepth 100000 in
theorem k_leB (s : ByteArray) (n : Nat) (h : n + 4 <= s.size) (hs : s.size <= 100000) (v : Nat) (hv : ldS s n = v) (w : World) : CK 145 #[.string s, .int .i64 n] (.int .i64 v) w := by
 have EX : Hid (bits .or .i64 (bits .or .i64 (bits .or .i64 (wrap64 ((s[n]'(by omega)).toNat : Int)) (wrap64 (wrap64 ((s[n + 1]'(by omega)).toNat : Int) * 256))) (wrap64 (wrap64 ((s[n + 2]'(by omega)).toNat : Int) * 65536))) (wrap64 (wrap64 ((s[n + 3]'(by omega)).toNat : Int) * 16777216)) = (v : Int)) := hide1 (by rw [<- hv, ldS_eq s n h]; exact le_exact' _ _ _ _ (UInt8.toNat_lt _) (UInt8.toNat_lt _) (UInt8.toNat_lt _) (UInt8.toNat_lt _))
 clear hv
 have i0 : n < s.size := by omega
 have i1 : n + 1 < s.size := by omega
 have i2 : n + 2 < s.size := by omega
 have i3 : n + 3 < s.size := by omega
 have w1 : IntKind.i64.wrap ((n : Int) + 1) = (n : Int) + 1 := zq115
 have w2 : IntKind.i64.wrap ((n : Int) + 2) = (n : Int) + 2 := zq115
 have w3 : IntKind.i64.wrap ((n : Int) + 3) = (n : Int) + 3 := zq115
 have j0 : (0 : Int) <= (n : Int) /\ (n : Int) < (s.size : Int) := by omega
 have j1 : (0 : Int) <= (n : Int) + 1 /\ (n : Int) + 1 < (s.size : Int) := by omega
 have j2 : (0 : Int) <= (n : Int) + 2 /\ (n : Int) + 2 < (s.size : Int) := by omega
 have j3 : (0 : Int) <= (n : Int) + 3 /\ (n : Int) + 3 < (s.size : Int) := by omega
 go_enter func145, ntmps145
 go_upto_region 1 with fail
 go_region
 all_goals
  go_wp2_with fail
  go_ret
  refine ⟨?_, (Kept.refl _ _).drew⟩
  exact congrArg (fun x => Ending.returned (Value.int .i64 x)) EX.out
end
theorem size_ok (w : Nat) (h : (w % 4 ≠ 3 /\ w < 65536) \/ (w % 4 = 3 /\ w < 4294967296)) : (decodeD (w : Int)).2 = 0 := by
 have hs : ¬ sizeOf (w : Int) = 0 := by
  unfold sizeOf
  rcases h with h | h
  . rw [if_neg (by omega), if_neg (by omega), if_pos (by omega)]; decide
  . rw [if_neg (by omega), if_pos (by omega)]; decide
 unfold decodeD
 rw [if_neg hs]
 cases scan (rowMeans (sizeOf (w : Int)) (w : Int).toNat) 1 (rowCount (sizeOf (w : Int))).toNat <;> rfl
def AtF (X : XS) (I : Ins) : Prop := (fetchD X.b (xC X) X.pc).1.f = 0 /\ (fetchD X.b (xC X) X.pc).2 = X.b /\ decodeD (fetchD X.b (xC X) X.pc).1.w = (I, 0)
theorem half_plain {X : XS} (hp : pgD (xC X) 0 = false) (va n : Nat) (hn : va = 2147483648 + n) (h2 : n + 2 <= X.b.ram.length) : halfD X.b (xC X) va = ((rdRam X.b n 2, 0), X.b) := by
 unfold halfD trD
 rw [if_neg (by rw [hp]; decide)]
 unfold halfP
 dsimp only
 rw [if_pos rfl, if_pos (by unfold holdsD; simp; omega), show va - 2147483648 = n by omega]
theorem rd_2 (B : BusS) (n : Nat) (h : n + 2 <= B.ram.length) : rdRam B n 2 = (B.ram.getD n 0).toNat + 256 * (B.ram.getD (n + 1) 0).toNat := by
 unfold rdRam
 rw [show (B.ram.drop n).take 2 = [B.ram.getD n 0, B.ram.getD (n + 1) 0] from ?_]
 . simp [ldN]
 . apply List.ext_getElem?
   intro i
   rw [List.getElem?_take]
   by_cases hi : i < 2
   . rw [if_pos hi, List.getElem?_drop, List.getElem?_eq_getElem (by omega)]
     have : i = 0 \/ i = 1 := by omega
     rcases this with rfl | rfl
     . simp [List.getD_eq_getElem?_getD, List.getElem?_eq_getElem (show n < B.ram.length by omega)]
     . simp [List.getD_eq_getElem?_getD, List.getElem?_eq_getElem (show n + 1 < B.ram.length by omega)]
   . exact zq393
theorem at_2 {X : XS} (hp : pgD (xC X) 0 = false) (n x : Nat) (hn : X.pc = 2147483648 + n) (h2 : n + 2 <= X.b.ram.length) (hx : rdRam X.b n 2 = x) (h3 : x % 4 ≠ 3) : AtF X (decodeD (x : Int)).1 := by
 have e := half_plain hp X.pc n hn h2
 have hl := rdRam_lt X.b n 2
 unfold AtF fetchD
 rw [e]
 dsimp only
 rw [if_pos rfl, hx, if_neg h3]
 rw [hx] at hl
 exact ⟨rfl, rfl, Prod.ext rfl (size_ok x (.inl ⟨h3, by omega⟩))⟩
theorem at_4 {X : XS} (hp : pgD (xC X) 0 = false) (n x y : Nat) (hn : X.pc = 2147483648 + n) (h4 : n + 4 <= X.b.ram.length) (hr : X.b.ram.length <= 65536) (hx : rdRam X.b n 2 = x) (h3 : x % 4 = 3) (hy : x + rdRam X.b (n + 2) 2 * 65536 = y) : AtF X (decodeD (y : Int)).1 := by
 have e := half_plain hp X.pc n hn (by omega)
 have e2 := half_plain hp ((X.pc + 2) % 4294967296) (n + 2) (by omega) (by omega)
 have hl := rdRam_lt X.b n 2
 have hl2 := rdRam_lt X.b (n + 2) 2
 unfold AtF fetchD
 rw [e]
 dsimp only
 rw [if_pos rfl, hx, if_pos h3, e2]
 dsimp only
 rw [if_pos rfl, hy]
 rw [hx] at hl
 exact ⟨rfl, rfl, Prod.ext rfl (size_ok y (.inr ⟨by omega, by omega⟩))⟩
theorem pk_get (r : List UInt8) (n : Nat) (h : n < (pkB r 0 r.length).size) : (pkB r 0 r.length)[n] = r.getD n 0 := by
 have e : (pkB r 0 r.length).data.toList = r := by
  unfold pkB
  rw [List.drop_zero, List.take_length]
  unfold strOfNums
  simp [Function.comp_def]
 have h2 : n < r.length := by rw [pkB_size _ _ _ (by omega)] at h; exact h
 have : (pkB r 0 r.length)[n] = (pkB r 0 r.length).data.toList[n]'(by rw [e]; exact h2) := rfl
 rw [this, List.getD_eq_getElem?_getD, List.getElem?_eq_getElem h2]
 simp [e]
theorem or_2 (a b : Nat) (ha : a < 256) (hb : b < 256) : bits .or .i64 (wrap64 (a : Int)) (wrap64 (wrap64 (b : Int) * 256)) = ((a + 256 * b : Nat) : Int) := by
 have := le_exact' a b 0 0 ha hb (by omega) (by omega)
 have w1 : wrap64 (wrap64 (b : Int) * 256) = ((b * 2 ^ 8 : Nat) : Int) := by rw [w64 b (by omega), <- w64 (b * 2 ^ 8) (by omega)]; simp
 rw [w1, w64 a (by omega), or_hi' a b 8 (by omega) (by omega)]
 congr 1; omega
theorem or_4 (x c d : Nat) (hx : x < 65536) (hc : c < 256) (hd : d < 256) : bits .or .i64 (bits .or .i64 (x : Int) (wrap64 (wrap64 (c : Int) * 65536))) (wrap64 (wrap64 (d : Int) * 16777216)) = ((x + (c + 256 * d) * 65536 : Nat) : Int) := by
 have w2 : wrap64 (wrap64 (c : Int) * 65536) = ((c * 2 ^ 16 : Nat) : Int) := by rw [w64 c (by omega), <- w64 (c * 2 ^ 16) (by omega)]; simp
 have w3 : wrap64 (wrap64 (d : Int) * 16777216) = ((d * 2 ^ 24 : Nat) : Int) := by rw [w64 d (by omega), <- w64 (d * 2 ^ 24) (by omega)]; simp
 rw [w2, w3, or_hi' x c 16 (by omega) (by omega), or_hi' (x + c * 2 ^ 16) d 24 (by omega) (by omega)]
 congr 1; omega
theorem and_3 (x : Nat) (hx : x < 65536) : bits .and .i64 (x : Int) 3 = ((x % 4 : Nat) : Int) := by
 have h1 : bits .and .i64 (x : Int) 3 = ((x &&& 3 : Nat) : Int) := b_and x 3 (by omega) (by decide)
 rw [h1, show x &&& 3 = x % 4 from Nat.and_two_pow_sub_one_eq_mod x 2]
def muB (b11 b3 b7 b9 b1 b5 : Bool) : Nat := bif b11 then 11 else bif b3 then 3 else bif b7 then 7 else bif b9 then 9 else bif b1 then 1 else bif b5 then 5 else 99
def irB (a1 a3 a5 a7 a9 a11 d1 d5 d9 n3 m0 m1 e3 e1 : Bool) : Nat :=
 bif (a11 || a3 || a7 || (a9 && !d9) || (a1 && !d1) || (a5 && !d5)) && (n3 || e3) then muB a11 a3 a7 (a9 && !d9) (a1 && !d1) (a5 && !d5)
 else bif ((a9 && d9) || (a1 && d1) || (a5 && d5)) && (m0 || (m1 && e1)) then muB false false false (a9 && d9) (a1 && d1) (a5 && d5) else 99
def bA (a1 a3 a5 a7 a9 a11 : Bool) (i : Nat) : Bool := bif i == 1 then a1 else bif i == 3 then a3 else bif i == 5 then a5 else bif i == 7 then a7 else bif i == 9 then a9 else bif i == 11 then a11 else false
def tkB (a d n3 m0 m1 e3 e1 : Bool) : Bool := a && (bif d then m0 || (m1 && e1) else n3 || e3)
def rkB (i : Nat) (d : Bool) : Nat := (bif i == 11 then 0 else bif i == 3 then 1 else bif i == 7 then 2 else bif i == 9 then 3 else bif i == 1 then 4 else bif i == 5 then 5 else 99) + (bif d then 6 else 0)
def chB (a1 a3 a5 a7 a9 a11 d1 d5 d9 n3 m0 m1 e3 e1 : Bool) (i : Nat) : Bool :=
 let I := irB a1 a3 a5 a7 a9 a11 d1 d5 d9 n3 m0 m1 e3 e1
 (!tkB (bA a1 a3 a5 a7 a9 a11 i) (bA d1 false d5 false d9 false i) n3 m0 m1 e3 e1 || (!(I == 99) && Nat.ble (rkB I (bA d1 false d5 false d9 false I)) (rkB i (bA d1 false d5 false d9 false i))))
 && ((I == 99) || tkB (bA a1 a3 a5 a7 a9 a11 I) (bA d1 false d5 false d9 false I) n3 m0 m1 e3 e1)
set_option maxRecDepth 100000 in
theorem ch_all : ∀ a1 a3 a5 a7 a9 a11 d1 d5 d9 n3 m0 m1 e3 e1 : Bool, (chB a1 a3 a5 a7 a9 a11 d1 d5 d9 n3 m0 m1 e3 e1 1 && chB a1 a3 a5 a7 a9 a11 d1 d5 d9 n3 m0 m1 e3 e1 3 && chB a1 a3 a5 a7 a9 a11 d1 d5 d9 n3 m0 m1 e3 e1 5 && chB a1 a3 a5 a7 a9 a11 d1 d5 d9 n3 m0 m1 e3 e1 7 && chB a1 a3 a5 a7 a9 a11 d1 d5 d9 n3 m0 m1 e3 e1 9 && chB a1 a3 a5 a7 a9 a11 d1 d5 d9 n3 m0 m1 e3 e1 11) = true := by decide +kernel
theorem bitN_tb (v i : Nat) : bitN v i = v.testBit i := by unfold bitN; rw [Nat.testBit_eq_decide_div_mod_eq]
def irX (X : XS) : Nat := irB (bitN (askD X) 1) (bitN (askD X) 3) (bitN (askD X) 5) (bitN (askD X) 7) (bitN (askD X) 9) (bitN (askD X) 11) (bitN X.c.mideleg 1) (bitN X.c.mideleg 5) (bitN X.c.mideleg 9) (!decide (X.mode = 3)) (decide (X.mode = 0)) (decide (X.mode = 1)) (bitN X.c.mstatus 3) (bitN X.c.mstatus 1)
def chX (X : XS) (i : Nat) : Bool := chB (bitN (askD X) 1) (bitN (askD X) 3) (bitN (askD X) 5) (bitN (askD X) 7) (bitN (askD X) 9) (bitN (askD X) 11) (bitN X.c.mideleg 1) (bitN X.c.mideleg 5) (bitN X.c.mideleg 9) (!decide (X.mode = 3)) (decide (X.mode = 0)) (decide (X.mode = 1)) (bitN X.c.mstatus 3) (bitN X.c.mstatus 1) i
def akX (X : XS) (i : Nat) : Bool := bA (bitN (askD X) 1) (bitN (askD X) 3) (bitN (askD X) 5) (bitN (askD X) 7) (bitN (askD X) 9) (bitN (askD X) 11) i
def dlX (X : XS) (i : Nat) : Bool := bA (bitN X.c.mideleg 1) false (bitN X.c.mideleg 5) false (bitN X.c.mideleg 9) false i
def tkX (X : XS) (a d : Bool) : Bool := tkB a d (!decide (X.mode = 3)) (decide (X.mode = 0)) (decide (X.mode = 1)) (bitN X.c.mstatus 3) (bitN X.c.mstatus 1)
def takB (X : XS) (i : Nat) : Bool := tkX X (bitN (askD X) i) (bitN X.c.mideleg i)
def rankD (X : XS) (i : Nat) : Nat := rkB i (bitN X.c.mideleg i)
theorem sub_bA {v : Nat} (h : v &&& 2730 = v) (i : Nat) (hi : i < 12) : bitN v i = bA (bitN v 1) (bitN v 3) (bitN v 5) (bitN v 7) (bitN v 9) (bitN v 11) i := by
 have e := sub_tb h i
 rw [<- bitN_tb] at e
 have hi' : i = 0 \/ i = 1 \/ i = 2 \/ i = 3 \/ i = 4 \/ i = 5 \/ i = 6 \/ i = 7 \/ i = 8 \/ i = 9 \/ i = 10 \/ i = 11 := by omega
 rcases hi' with rfl | rfl | rfl | rfl | rfl | rfl | rfl | rfl | rfl | rfl | rfl | rfl
 all_goals first | rfl | (rw [e, show Nat.testBit 2730 _ = false from by decide, Bool.and_false]; rfl)
theorem sub_zero {v : Nat} (h : v &&& 2730 = v) : decide (v = 0) = !(bitN v 11 || bitN v 3 || bitN v 7 || bitN v 9 || bitN v 1 || bitN v 5) := by
 rw [Bool.eq_iff_iff]
 simp only [decide_eq_true_eq, Bool.not_eq_true', Bool.or_eq_false_iff]
 constructor
 . rintro rfl; decide
 . intro q
   apply Nat.eq_of_testBit_eq
   intro i
   rw [Nat.zero_testBit, <- bitN_tb]
   by_cases hi : i < 12
   . rw [sub_bA h i hi, q.2, q.1.2, q.1.1.2, q.1.1.1.2, q.1.1.1.1.2, q.1.1.1.1.1]
     unfold bA
     cases i == 1 <;> cases i == 3 <;> cases i == 5 <;> cases i == 7 <;> cases i == 9 <;> cases i == 11 <;> rfl
   . have := sub_tb h i
     rw [<- bitN_tb] at this
     rw [this, show Nat.testBit 2730 i = false from Nat.testBit_lt_two_pow (Nat.lt_of_lt_of_le (by decide : 2730 < 2 ^ 12) (Nat.pow_le_pow_right (by decide) (by omega))), Bool.and_false]
theorem mu_p : ∀ b11 b3 b7 x y z : Bool, (b11 || b3 || b7 || x || y || z) = true -> muB b11 b3 b7 x y z ≠ 99 := by decide
theorem mu_eq (v : Nat) : xmuD v = if muB (bitN v 11) (bitN v 3) (bitN v 7) (bitN v 9) (bitN v 1) (bitN v 5) = 99 then -1 else (muB (bitN v 11) (bitN v 3) (bitN v 7) (bitN v 9) (bitN v 1) (bitN v 5) : Int) := by
 have e : ∀ n, xhbD v n = bitN v n := fun _ => rfl
 unfold xmuD
 rw [e, e, e, e, e, e]
 cases bitN v 11 <;> cases bitN v 3 <;> cases bitN v 7 <;> cases bitN v 9 <;> cases bitN v 1 <;> cases bitN v 5 <;> rfl
theorem ask_sub {X : XS} (h : XInv X) : askD X &&& 2730 = askD X := by
 unfold askD
 rw [Nat.and_assoc, h.mie]
theorem int_eq {X : XS} (h : XInv X) : ∃ I : Nat, I = irX X /\ intD X = if I = 99 then -1 else (I : Int) := by
 have ha := ask_sub h
 have hd : ∀ i, Nat.testBit 546 i = false -> bitN X.c.mideleg i = false := fun i e => by
  have := sub_tb h.mid i
  rw [bitN_tb, this, e, Bool.and_false]
 have d3 := hd 3 (by decide)
 have d7 := hd 7 (by decide)
 have d11 := hd 11 (by decide)
 have b1 : ∀ i, bitN (wout (askD X) X.c.mideleg) i = (bitN (askD X) i && !bitN X.c.mideleg i) := fun i => by rw [bitN_tb, bitN_tb, bitN_tb, wout_tb]
 have b2 : ∀ i, bitN (askD X &&& X.c.mideleg) i = (bitN (askD X) i && bitN X.c.mideleg i) := fun i => by rw [bitN_tb, bitN_tb, bitN_tb, Nat.testBit_and]
 have s1 : wout (askD X) X.c.mideleg &&& 2730 = wout (askD X) X.c.mideleg := by
  apply Nat.eq_of_testBit_eq
  intro i
  rw [Nat.testBit_and, wout_tb]
  have := sub_tb ha i
  cases q : (askD X).testBit i
  . rfl
  . rw [q] at this; simp at this; rw [this, Bool.and_true]
 have s2 : askD X &&& X.c.mideleg &&& 2730 = askD X &&& X.c.mideleg := by
  rw [Nat.and_assoc, Nat.and_comm X.c.mideleg, <- Nat.and_assoc, ha]
 refine ⟨_, rfl, ?_⟩
 unfold intD irX
 rw [sub_zero s1, sub_zero s2, mu_eq, mu_eq]
 simp only [b1, b2, d3, d7, d11, Bool.not_false, Bool.and_true, Bool.and_false]
 generalize bitN (askD X) 1 = a1
 generalize bitN (askD X) 3 = a3
 generalize bitN (askD X) 5 = a5
 generalize bitN (askD X) 7 = a7
 generalize bitN (askD X) 9 = a9
 generalize bitN (askD X) 11 = a11
 generalize bitN X.c.mideleg 1 = e1
 generalize bitN X.c.mideleg 5 = e5
 generalize bitN X.c.mideleg 9 = e9
 generalize decide (X.mode = 3) = m3
 generalize decide (X.mode = 0) = m0
 generalize decide (X.mode = 1) = m1
 generalize bitN X.c.mstatus 3 = ie
 generalize bitN X.c.mstatus 1 = se
 unfold intB irB
 simp only [Bool.not_not, Bool.or_false, Bool.false_or]
 obtain ⟨p, hp⟩ := zn1 ((a11 || a3 || a7 || (a9 && !e9) || (a1 && !e1) || (a5 && !e5)))
 obtain ⟨q, hq⟩ := zn1 (((a9 && e9) || (a1 && e1) || (a5 && e5)))
 rw [<- hp, <- hq]
 have P : p = true -> muB a11 a3 a7 (a9 && !e9) (a1 && !e1) (a5 && !e5) ≠ 99 := by rw [hp]; exact mu_p _ _ _ _ _ _
 have Q : q = true -> muB false false false (a9 && e9) (a1 && e1) (a5 && e5) ≠ 99 := by rw [hq]; exact mu_p false false false _ _ _
 generalize muB a11 a3 a7 (a9 && !e9) (a1 && !e1) (a5 && !e5) = U at P
 generalize muB false false false (a9 && e9) (a1 && e1) (a5 && e5) = V at Q
 clear hp hq
 cases p <;> cases q <;> cases m3 <;> cases m0 <;> cases m1 <;> cases ie <;> cases se <;> simp at P Q |- <;> simp [P, Q]
structure Cho (X : XS) (k : Int) (c : Nat) : Prop where
 lt : c < 16
 a : ∀ i, i < 12 -> takB X i = true -> k = 2 /\ rankD X c <= rankD X i
 b : k = 2 -> takB X c = true
 d : k = 3 -> askD X = 0
theorem tak_eq {X : XS} (h : XInv X) (i : Nat) (hi : i < 12) : takB X i = tkX X (akX X i) (dlX X i) /\ rankD X i = rkB i (dlX X i) := by
 have hm : X.c.mideleg &&& 2730 = X.c.mideleg := sub_trans h.mid (by decide)
 have hd : ∀ i, Nat.testBit 546 i = false -> bitN X.c.mideleg i = false := fun i e => by
  have := sub_tb h.mid i
  rw [bitN_tb, this, e, Bool.and_false]
 have e := sub_bA hm i hi
 rw [hd 3 (by decide), hd 7 (by decide), hd 11 (by decide)] at e
 unfold takB rankD
 rw [sub_bA (ask_sub h) i hi, e]
 exact ⟨rfl, rfl⟩
theorem ch_of {X : XS} (h : XInv X) (I : Nat) (hI : I = irX X) (hI2 : I < 12 \/ I = 99) :
 (∀ i, i < 12 -> takB X i = true -> I ≠ 99 /\ rankD X I <= rankD X i) /\ (I ≠ 99 -> takB X I = true) := by
 have all : (chX X 1 && chX X 3 && chX X 5 && chX X 7 && chX X 9 && chX X 11) = true := ch_all _ _ _ _ _ _ _ _ _ _ _ _ _ _
 simp only [Bool.and_eq_true] at all
 have one : ∀ i, i = 1 \/ i = 3 \/ i = 5 \/ i = 7 \/ i = 9 \/ i = 11 -> chX X i = true := by
  rintro i (rfl | rfl | rfl | rfl | rfl | rfl)
  . exact all.1.1.1.1.1
  . exact all.1.1.1.1.2
  . exact all.1.1.1.2
  . exact all.1.1.2
  . exact all.1.2
  . exact all.2
 clear all
 have two : ∀ i, i = 1 \/ i = 3 \/ i = 5 \/ i = 7 \/ i = 9 \/ i = 11 -> (takB X i = true -> I ≠ 99 /\ rankD X I <= rankD X i) /\ (I ≠ 99 -> takB X I = true) := by
  intro i hi
  have o := one i hi
  have t := tak_eq h i (by omega)
  have o : ((!tkX X (akX X i) (dlX X i) || (!(irX X == 99) && Nat.ble (rkB (irX X) (dlX X (irX X))) (rkB i (dlX X i)))) && ((irX X == 99) || tkX X (akX X (irX X)) (dlX X (irX X)))) = true := o
  rw [<- hI, <- t.1, <- t.2] at o
  simp only [Bool.and_eq_true, Bool.or_eq_true, Bool.not_eq_true'] at o
  refine ⟨fun ht => ?_, fun hn => ?_⟩
  . rcases o.1 with q | q
    . rw [ht] at q; cases q
    . have hn : I ≠ 99 := by simpa using q.1
      have t2 := (tak_eq h I (by omega)).2
      refine ⟨hn, ?_⟩
      rw [t2]
      exact Nat.le_of_ble_eq_true q.2
  . rcases o.2 with q | q
    . exact absurd (by simpa using q) hn
    . rw [(tak_eq h I (by omega)).1]; exact q
 refine ⟨fun i hi ht => ?_, (two 1 (.inl rfl)).2⟩
 by_cases hs : i = 1 \/ i = 3 \/ i = 5 \/ i = 7 \/ i = 9 \/ i = 11
 . exact (two i hs).1 ht
 . exfalso
   rw [(tak_eq h i hi).1] at ht
   have z : akX X i = false := by
    have : i = 0 \/ i = 2 \/ i = 4 \/ i = 6 \/ i = 8 \/ i = 10 := by omega
    rcases this with rfl | rfl | rfl | rfl | rfl | rfl <;> rfl
   rw [z] at ht
   cases ht
theorem cho_of {X : XS} (h : XInv X) : ∃ c : Nat, (stepX X).1.2 = c /\ Cho X (stepX X).1.1 c := by
 obtain ⟨I, hI, hE⟩ := int_eq h
 have hin := int_in X
 have hI2 : I < 12 \/ I = 99 := by
  by_cases q : I = 99
  . exact .inr q
  . rw [if_neg q] at hE; left; omega
 have C := ch_of h I hI hI2
 rcases step_is h with ⟨e, ha, _⟩ | ⟨c, hc, e, _⟩ | ⟨hi, _, e, _⟩ | ⟨hi, c, hc, _, e, _⟩
 . refine ⟨0, by rw [e]; rfl, by omega, fun i hi ht => ?_, by rw [e]; intro q; exact absurd q zq526, fun _ => ha⟩
   exfalso
   unfold takB tkX tkB at ht
   rw [ha] at ht
   have : bitN 0 i = false := by rw [bitN_tb, Nat.zero_testBit]
   rw [this] at ht
   cases ht
 . have hn : I ≠ 99 := by intro q; rw [if_pos q] at hE; omega
   have hc' : c = I := by rw [if_neg hn] at hE; omega
   subst hc'
   refine ⟨c, by rw [e], by omega, fun i hi ht => ⟨by rw [e], (C.1 i hi ht).2⟩, fun _ => C.2 hn, by rw [e]; intro q; exact absurd q zq526⟩
 . have hn : I = 99 := by
    by_cases q : I = 99
    . exact q
    . rw [if_neg q] at hE; omega
   exact ⟨0, by rw [e]; rfl, by omega, fun i hi ht => absurd hn (C.1 i hi ht).1, by rw [e]; intro q; exact absurd q zq526, by rw [e]; intro q; exact absurd q zq526⟩
 . have hn : I = 99 := by
    by_cases q : I = 99
    . exact q
    . rw [if_neg q] at hE; omega
   exact ⟨c, by rw [e], by omega, fun i hi ht => absurd hn (C.1 i hi ht).1, by rw [e]; intro q; exact absurd q zq526, by rw [e]; intro q; exact absurd q zq526⟩
section
attribute [local go_sem ↓] Go.wp_at_zero Go.wp_at_succ
structure Bo (w : World) (b n : Nat) : Prop where
 cell : ∀ j, j < n -> ∃ r : Bool, w.cell? ⟨b, j, none⟩ = some (.bool r)
 fro : ∀ o, w.frozen? ⟨b, o, none⟩ = false
 lt : b < w.heap.size
theorem Bo.more {w w' : World} {b n : Nat} {F : List Nat} (h : Bo w b n) (hk : Kept F w w') (hn : ¬ b ∈ F) : Bo w' b n := ⟨fun j hj => by obtain ⟨r, hr⟩ := h.cell j hj; exact ⟨r, (hk.cell (p := ⟨b, j, none⟩) h.lt hn).trans hr⟩, fun o => (hk.frozen (p := ⟨b, o, none⟩) h.lt hn).trans (h.fro o), Nat.lt_of_lt_of_le h.lt hk.size⟩
theorem Bo.set {w : World} {b n : Nat} (h : Bo w b n) (c k : Nat) (r : Bool) : Bo (w.setCell ⟨c, k, none⟩ (.bool r)) b n := by
 refine ⟨fun j hj => ?_, fun o => by rw [World.frozen?_setCell]; exact h.fro o, Nat.lt_of_lt_of_le h.lt ((Kept.refl [c] w).setCell (.inl (by simp)) (.bool r)).size⟩
 obtain ⟨x, hx⟩ := h.cell j hj
 by_cases e : b = c /\ j = k
 . obtain ⟨rfl, rfl⟩ := e
   exact ⟨r, World.cell?_setCell_same _ _ _ hx⟩
 . refine ⟨x, ?_⟩
   rw [World.cell?_setCell_other _ _ _ _ (by simp; omega)]
   exact hx
structure Tabs (w : World) (tb b0 b1 b2 b3 b4 n m : Nat) : Prop where
 hdr : BoxF w tb [.slice (some ⟨b0, 0, none⟩) n n, .slice (some ⟨b1, 0, none⟩) n n, .slice (some ⟨b2, 0, none⟩) n n, .slice (some ⟨b3, 0, none⟩) m m, .slice (some ⟨b4, 0, none⟩) n n]
 s0 : Bo w b0 n
 s1 : Bo w b1 n
 s2 : Bo w b2 n
 s3 : Bo w b3 m
 s4 : Bo w b4 n
 ne : ¬ tb ∈ [b0, b1, b2, b3, b4]
 nd : ¬ b1 = b2
 n4 : ¬ b4 ∈ [b0, b1, b2, b3]
theorem Tabs.set {w : World} {tb b0 b1 b2 b3 b4 n m : Nat} (h : Tabs w tb b0 b1 b2 b3 b4 n m) (c k : Nat) (r : Bool) (hc : c ∈ [b0, b1, b2, b3, b4]) : Tabs (w.setCell ⟨c, k, none⟩ (.bool r)) tb b0 b1 b2 b3 b4 n m :=
 ⟨h.hdr.more ((Kept.refl [c] w).setCell (.inl (by simp)) (.bool r)) (by simp; rintro rfl; exact h.ne hc), h.s0.set c k r, h.s1.set c k r, h.s2.set c k r, h.s3.set c k r, h.s4.set c k r, h.ne, h.nd, h.n4⟩
theorem Tabs.kept {w w' : World} {tb b0 b1 b2 b3 b4 n m : Nat} (h : Tabs w tb b0 b1 b2 b3 b4 n m) (hk : Kept [] w w') : Tabs w' tb b0 b1 b2 b3 b4 n m :=
 ⟨h.hdr.kept hk, h.s0.more hk (by simp), h.s1.more hk (by simp), h.s2.more hk (by simp), h.s3.more hk (by simp), h.s4.more hk (by simp), h.ne, h.nd, h.n4⟩
def Tru (w : World) (b j : Nat) : Prop := w.cell? ⟨b, j, none⟩ = some (.bool true)
def Up (w w' : World) : Prop := ∀ b j, b < w.heap.size -> Tru w b j -> Tru w' b j
theorem Up.refl (w : World) : Up w w := fun _ _ _ h => h
theorem Up.kept {w w' : World} (h : Kept [] w w') : Up w w' := fun b j hb ht => (h.cell (p := ⟨b, j, none⟩) hb (by simp)).trans ht
theorem Up.set (w : World) (b k : Nat) : Up w (w.setCell ⟨b, k, none⟩ (.bool true)) := by
 intro c j hc ht
 unfold Tru at *
 by_cases e : c = b /\ j = k
 . obtain ⟨rfl, rfl⟩ := e
   exact World.cell?_setCell_same _ _ _ ht
 . rw [World.cell?_setCell_other _ _ _ _ (by simp; omega)]
   exact ht
theorem Up.trans {w w' w'' : World} (h : Up w w') (hs : w.heap.size <= w'.heap.size) (h2 : Up w' w'') : Up w w'' := fun b j hb ht => h2 b j (by omega) (h b j hb ht)
def Cov (w : World) (b1 b2 n : Nat) (us su : Bool) (e P c : Nat) : Prop := ((bitN e 4 == us) || (bitN e 4 && su)) = true -> ∀ k, k < c -> ∀ p, P + k = p + 524288 -> p < n -> Tru w b1 p /\ (bitN e 2 = true -> Tru w b2 p)
theorem Cov.up {w w' : World} {b1 b2 n : Nat} {us su : Bool} {e P c : Nat} (h : Cov w b1 b2 n us su e P c) (hu : Up w w') (h1 : b1 < w.heap.size) (h2 : b2 < w.heap.size) : Cov w' b1 b2 n us su e P c := fun hm k hk p hp hn => ⟨hu _ _ h1 (h hm k hk p hp hn).1, fun hw => hu _ _ h2 ((h hm k hk p hp hn).2 hw)⟩
theorem bit_tst (v i : Nat) (hv : v < 4294967296) (x : Int) (hx : (v : Int) / 2 ^ i = x) : (bits .and .i64 x 1 == 1) = bitN v i := by
 have e : x = ((v / 2 ^ i : Nat) : Int) := by rw [<- hx]; simp
 have l : v / 2 ^ i < 9223372036854775808 := Nat.lt_of_le_of_lt (Nat.div_le_self _ _) (by omega)
 have := b_and (v / 2 ^ i) 1 l (by decide)
 rw [e]
 have h1 : bits .and .i64 ((v / 2 ^ i : Nat) : Int) 1 = ((v / 2 ^ i &&& 1 : Nat) : Int) := this
 rw [h1, Nat.and_one_is_mod]
 unfold bitN
 rw [Bool.eq_iff_iff]
 simp
 omega
set_option maxRecDepth 100000 in
theorem k_cover (tb b0 b1 b2 b3 b4 n m : Nat) (hn : n <= 100) (c : Nat) (hc : c <= 1024) (ppn e : Nat) (p1 : ppn <= 4294967296) (he : e < 4294967296) (u s : Bool) (w : World) (hw : Hid (Tabs w tb b0 b1 b2 b3 b4 n m)) :
 Calls prog 150 #[.pointer (some ⟨tb, 0, none⟩), .int .i64 ppn, .int .i64 c, .int .i64 e, .bool u, .bool s] w fun o w' => o = .returned (.tuple #[]) /\ Tabs w' tb b0 b1 b2 b3 b4 n m /\ Kept [b0, b1, b2, b3] w w' /\ Up w w' /\ Cov w' b1 b2 n u s e ppn c := by
 have K0 := hide1 (Kept.refl [b0, b1, b2, b3] w)
 have U0 := hide1 (Up.refl w)
 have q4 := bit_tst e 4 he ((e : Int) / 16) rfl
 have q2 := bit_tst e 2 he ((e : Int) / 4) rfl
 have N0 : Hid (((bitN e 4 == u) || (bitN e 4 && s)) = false -> ∀ W i, Cov W b1 b2 n u s e ppn i) := hide1 (fun h W i hm => absurd hm (by rw [h]; decide))
 have V0 : Hid (Cov w b1 b2 n u s e ppn 0) := hide1 (fun _ k hk => absurd hk (by omega))
 have ST : Hid (∀ i W, Cov W b1 b2 n u s e ppn i -> (∀ p, ppn + i = p + 524288 -> p < n -> False) -> Cov W b1 b2 n u s e ppn (i + 1)) := hide1 (fun i W h hp hm k hk p e1 e2 => by
  rcases Nat.lt_or_ge k i with h3 | h3
  . exact h hm k h3 p e1 e2
  . obtain rfl : k = i := by omega
    exact absurd (hp p e1 e2) (by simp))
 have SU : Hid (∀ i W W' p, Cov W b1 b2 n u s e ppn i -> Tabs W tb b0 b1 b2 b3 b4 n m -> Up W W' -> ppn + i = p + 524288 -> Tru W' b1 p -> (bitN e 2 = true -> Tru W' b2 p) -> Cov W' b1 b2 n u s e ppn (i + 1)) := hide1 (fun i W W' p h ht hu hp t1 t2 hm k hk p' e1 e2 => by
  rcases Nat.lt_or_ge k i with h3 | h3
  . exact h.up hu ht.s1.lt ht.s2.lt hm k h3 p' e1 e2
  . obtain rfl : k = i := by omega
    obtain rfl : p' = p := by omega
    exact ⟨t1, t2⟩)
 obtain ⟨bu, hbu⟩ := zn1 (bitN e 4)
 obtain ⟨bw, hbw⟩ := zn1 (bitN e 2)
 rw [<- hbu] at q4 N0
 rw [<- hbw] at q2 SU
 clear he hbu hbw
 cases bu <;> cases u <;> cases s <;> cases bw
 all_goals as_aux_lemma =>
  go_enter func150, ntmps150
  go_upto_region 2 with fail
  all_goals
   go_wp2_with fail
   go_loopw [14] (fun x wr => ∃ i : Nat, i <= c /\ x = .int .i64 i /\ Hid (Tabs wr tb b0 b1 b2 b3 b4 n m) /\ Hid (Kept [b0, b1, b2, b3] w wr) /\ Hid (Up w wr) /\ Hid (Cov wr b1 b2 n _ _ e ppn i)) (fun x _ => c - (intOf x).toNat)
   case atStart => exact ⟨0, by omega, rfl, hw, K0, U0, V0⟩
   case round =>
    obtain ⟨i, hi, rfl, hb, hk, hU, hV⟩ := hrel
    clear hw K0 U0 V0
    have hz := hb.out.hdr.lt
    have c1 := hb.out.hdr.cell 1 _ rfl
    by_cases hlt : i < c
    . have hlt' : decide ((i : Int) < (c : Int)) = true := by simp; omega
      by_cases h0 : 0 <= (ppn : Int) + i - 524288
      . obtain ⟨p, hp⟩ : ∃ p : Nat, (ppn : Int) + i - 524288 = p := ⟨((ppn : Int) + i - 524288).toNat, by omega⟩
        by_cases h1 : p < n
        . have h1' : decide ((p : Int) < (n : Int)) = true := by simp; omega
          have c2 := hb.out.hdr.cell 2 _ rfl
          obtain ⟨r1, e1⟩ := hb.out.s1.cell p h1
          obtain ⟨r2, e2⟩ := hb.out.s2.cell p h1
          have f1 := hb.out.s1.fro p
          have f2 := hb.out.s2.fro p
          have n1 : ¬ tb = b1 := fun h => hb.out.ne (by simp [h])
          have n2 : ¬ b1 = tb := fun h => n1 h.symm
          have n3 := hb.out.nd
          have n4 : ¬ b2 = b1 := fun h => n3 h.symm
          have B1 := hide1 (hb.out.set b1 p true (by simp))
          have G1 : Hid (Kept [b0, b1, b2, b3] wr (wr.setCell ⟨b1, p, none⟩ (.bool true))) := zq140
          have U1 := hide1 (Up.set wr b1 p)
          have B2 := hide1 (B1.out.set b2 p true (by simp))
          have G2 : Hid (Kept [b0, b1, b2, b3] wr ((wr.setCell ⟨b1, p, none⟩ (.bool true)).setCell ⟨b2, p, none⟩ (.bool true))) := hide1 (G1.out.setCell (.inl (by simp)) _)
          have U2 := hide1 (U1.out.trans G1.out.size (Up.set _ b2 p))
          have T1 : Hid (Tru (wr.setCell ⟨b1, p, none⟩ (.bool true)) b1 p) := hide1 (World.cell?_setCell_same _ _ _ e1)
          have T2 : Hid (Tru ((wr.setCell ⟨b1, p, none⟩ (.bool true)).setCell ⟨b2, p, none⟩ (.bool true)) b2 p) := hide1 (by
           obtain ⟨r, er⟩ := B1.out.s2.cell p h1
           exact World.cell?_setCell_same _ _ _ er)
          have PI := hide1 (show ppn + i = p + 524288 by omega)
          go_wp2_with fail
          all_goals
           go_roundw
           case rel => first
            | exact ⟨i + 1, by omega, by go_num, B1, hide1 (hk.out.trans G1.out), hide1 (hU.out.trans hk.out.size U1.out), hide1 (SU.out i _ _ p hV.out hb.out U1.out PI.out T1.out (fun h => Bool.noConfusion h))⟩
            | exact ⟨i + 1, by omega, by go_num, B2, hide1 (hk.out.trans G2.out), hide1 (hU.out.trans hk.out.size U2.out), hide1 (SU.out i _ _ p hV.out hb.out U2.out PI.out ((Up.set _ b2 p) _ _ B1.out.s1.lt T1.out) (fun _ => T2.out))⟩
             | exact ⟨i + 1, by omega, by go_num, hb, hk, hU, hide1 (N0.out rfl _ _)⟩
           case measure => exact zq191
        . have h1' : decide ((p : Int) < (n : Int)) = false := by simp; omega
          exact zq400
      . have h0' : decide (0 <= (ppn : Int) + i - 524288) = false := by simp; omega
        exact zq400
    . have hlt' : decide ((i : Int) < (c : Int)) = false := by simp; omega
      obtain rfl : i = c := by omega
      go_wp2_with fail
      go_end0
      exact ⟨rfl, hb.out, hk.out, hU.out, hV.out⟩
set_option maxRecDepth 100000 in
theorem k_hasT (v i : Nat) (hi : i < 32) (hv : v < 4294967296) (w : World) : CS 105 #[.int .i64 v, .int .i64 (i : Int)] (.bool (bitN v i)) w := by
 rw [<- bit_tst v i hv _ rfl]
 go_enter func105, ntmps105
 exact zq210
set_option maxRecDepth 100000 in
theorem k_hasBothT (i : Nat) (hi : i < 32) (A : Nat) (hA : A < 4294967296) (fb : Nat) (f : Fc) (hf0 : bits .and .i64 f.ip f.ie = (A : Int)) (w : World) (hf : Hid (BoxF w fb f.l)) : CK 146 #[.pointer (some ⟨fb, 0, none⟩), .int .i64 (i : Int)] (.bool (bitN A i)) w := by
 have c3 := hf.out.cell 3 _ rfl
 have c4 := hf.out.cell 4 _ rfl
 have cl := hf.out.lt
 rw [<- bit_tst A i hA _ rfl]
 clear hA
 go_enter func146, ntmps146
 go_upto_region 1 with fail
 exact zq401
structure Loo (X : XS) (f : Fc) : Prop where
 lt : askD X < 4294967296
 ask : bits .and .i64 f.ip f.ie = (askD X : Int)
 d : ∀ i : Nat, (bits .and .i64 (f.mideleg / 2 ^ i) 1 == 1) = bitN X.c.mideleg i
 s1 : (bits .and .i64 (f.status / 2) 1 == 1) = bitN X.c.mstatus 1
 s3 : (bits .and .i64 (f.status / 8) 1 == 1) = bitN X.c.mstatus 3
 m0 : (f.mode == 0) = decide (X.mode = 0)
 m1 : (f.mode == 1) = decide (X.mode = 1)
 m3 : (f.mode == 3) = decide (X.mode = 3)
 n3 : (f.mode != 3) = !decide (X.mode = 3)
theorem loo_of {X : XS} (hX : XInv X) {f : Fc} (fx : FcX X f) : Loo X f := by
 have h := hX.ok
 have st : f.status = ((X.c.mstatus : Nat) : Int) := fx.status
 have md : f.mideleg = ((X.c.mideleg : Nat) : Int) := fx.mideleg
 have m := fx.mode
 refine ⟨Nat.lt_of_le_of_lt (Nat.and_le_right (n := penD X) (m := X.c.mie)) h.mie, ?_, fun i => bit_tst _ i h.mideleg _ (by rw [md]), bit_tst _ 1 h.mstatus _ (by rw [st]; rfl), bit_tst _ 3 h.mstatus _ (by rw [st]; rfl), ?_, ?_, ?_, ?_⟩
 . exact andE (show f.ip = ((penD X : Nat) : Int) from fx.ip) (show f.ie = ((X.c.mie : Nat) : Int) from fx.ie) (pen_lt' hX) h.mie
 . rw [m, Bool.eq_iff_iff]; simp
 . rw [m, Bool.eq_iff_iff]; simp; omega
 . rw [m, Bool.eq_iff_iff]; simp; omega
 . rw [m, Bool.eq_iff_iff]; simp; omega
set_option maxRecDepth 100000 in
theorem k_takesT (i : Nat) (hi : i < 32) (X : XS) (fb : Nat) (f : Fc) (L : Hid (Loo X f)) (w : World) (hf : Hid (BoxF w fb f.l)) : CK 103 #[.pointer (some ⟨fb, 0, none⟩), .int .i64 (i : Int)] (.bool (takB X i)) w := by
 have HB := hide1 (k_hasBothT i hi _ L.out.lt fb f L.out.ask w hf)
 have d := L.out.d i
 have s1 := L.out.s1
 have s3 := L.out.s3
 have m0 := L.out.m0
 have m1 := L.out.m1
 have m3 := L.out.m3
 have n3 := L.out.n3
 unfold takB tkX
 obtain ⟨A, hA⟩ := zn2 (bitN (askD X) i)
 obtain ⟨D, hD⟩ := zn2 (bitN X.c.mideleg i)
 obtain ⟨S1, hS1⟩ := zn2 (bitN X.c.mstatus 1)
 obtain ⟨S3, hS3⟩ := zn2 (bitN X.c.mstatus 3)
 obtain ⟨M0, hM0⟩ := zn2 (decide (X.mode = 0))
 obtain ⟨M1, hM1⟩ := zn2 (decide (X.mode = 1))
 obtain ⟨M3, hM3⟩ := zn2 (decide (X.mode = 3))
 rw [hA] at HB
 rw [hD] at d
 rw [hS1] at s1
 rw [hS3] at s3
 rw [hM0] at m0
 rw [hM1] at m1
 rw [hM3] at m3 n3
 rw [hA, hD, hS1, hS3, hM0, hM1, hM3]
 clear L hA hD hS1 hS3 hM0 hM1 hM3
 go_enter func103, ntmps103
 go_wp2_with fail
 refine HB.out.mono ?_
 rintro o w1 ⟨rfl, hk⟩
 have hf1 := hide1 (hf.out.kept hk)
 have K1 := hide1 hk
 clear hk HB hf
 have c0 := hf1.out.cell 0 _ rfl
 have c2 := hf1.out.cell 2 _ rfl
 have c5 := hf1.out.cell 5 _ rfl
 have cl := hf1.out.lt
 cases A
 . clear d s1 s3 m0 m1 m3 n3
   go_wp2_with fail
   go_ret
   exact ⟨rfl, K1.out⟩
 cases D
 . clear s1 m0 m1
   cases M3 <;> cases S3
   all_goals
    go_wp2_with fail
    go_ret
    exact ⟨rfl, K1.out⟩
 . clear s3 m3 n3
   cases M0 <;> cases M1 <;> cases S1
   all_goals
    go_wp2_with fail
    go_ret
    exact ⟨rfl, K1.out⟩
theorem rk_of (i : Nat) (d : Bool) (a : Nat) (h : (bif i == 11 then 0 else bif i == 3 then 1 else bif i == 7 then 2 else bif i == 9 then 3 else bif i == 1 then 4 else bif i == 5 then 5 else 99) = a) : rkB i d = a + bif d then 6 else 0 := by unfold rkB; rw [h]
set_option maxRecDepth 100000 in
theorem k_rankT (i : Nat) (hi : i < 32) (X : XS) (fb : Nat) (f : Fc) (L : Hid (Loo X f)) (w : World) (hf : Hid (BoxF w fb f.l)) : CS 104 #[.pointer (some ⟨fb, 0, none⟩), .int .i64 (i : Int)] (.int .i64 ((rankD X i : Nat) : Int)) w := by
 have c5 := hf.out.cell 5 _ rfl
 have cl := hf.out.lt
 have d := L.out.d i
 unfold rankD
 obtain ⟨D, hD⟩ := zn2 (bitN X.c.mideleg i)
 rw [hD] at d |-
 clear hD L
 have E := hide1 (rk_of i D)
 have n : ∀ k : Nat, ((i : Int) == (k : Int)) = (i == k) := fun k => by rw [Bool.eq_iff_iff]; simp; omega
 have n11 : ((i : Int) == 11) = (i == 11) := n 11
 have n3 : ((i : Int) == 3) = (i == 3) := n 3
 have n7 : ((i : Int) == 7) = (i == 7) := n 7
 have n9 : ((i : Int) == 9) = (i == 9) := n 9
 have n1 : ((i : Int) == 1) = (i == 1) := n 1
 have n5 : ((i : Int) == 5) = (i == 5) := n 5
 obtain ⟨R, hR⟩ := zn2 (rkB i D)
 rw [hR] at E |-
 generalize (i == 11) = b11 at n11 E
 generalize (i == 3) = b3 at n3 E
 generalize (i == 7) = b7 at n7 E
 generalize (i == 9) = b9 at n9 E
 generalize (i == 1) = b1 at n1 E
 generalize (i == 5) = b5 at n5 E
 clear hR n
 have W : ∀ a : Nat, Hid (R = a) -> Hid (((R : Nat) : Int) = a) := fun a h => hide1 (by rw [h.out])
 cases b11
 . cases b3
   . cases b7
     . cases b9
       . cases b1
         . cases b5
           . exact zq402
           . exact zq402
         . exact zq402
       . exact zq402
     . exact zq402
   . exact zq402
 . exact zq402
set_option maxRecDepth 100000 in
theorem k_chosenT (X : XS) (k : Int) (c : Nat) (H : Hid (Cho X k c)) (fb : Nat) (f : Fc) (L : Hid (Loo X f)) (w : World) (hf : Hid (BoxF w fb f.l)) : CK 55 #[.pointer (some ⟨fb, 0, none⟩), .agg #[.int .i64 k, .int .i64 (c : Int)]] (.bool true) w := by
 have c16 := H.out.lt
 have k0 : Kept [] w (w.alloc (.cells #[.int .i64 k, .int .i64 (c : Int)] 45)) := zq136
 have hf0 := hide1 (hf.out.kept k0)
 have D0 := hide1 (BoxF.new w [.int .i64 k, .int .i64 (c : Int)] 45)
 have K0 := hide1 k0
 clear k0 hf
 go_enter func55, ntmps55
 go_wp2_with fail
 go_loopw [5] (fun x wr => ∃ i : Nat, i <= 12 /\ x = .int .i64 i /\ Hid (BoxF wr fb f.l) /\ Hid (BoxF wr w.heap.size [.int .i64 k, .int .i64 (c : Int)]) /\ Hid (Kept [] w wr)) (fun x _ => 12 - (intOf x).toNat)
 case atStart => exact ⟨0, by omega, rfl, hf0, D0, K0⟩
 case round =>
  obtain ⟨i, hi, rfl, hfr, hdr, hkr⟩ := hrel
  clear hf0 D0 K0
  by_cases hlt : i < 12
  . have hlt' : decide ((i : Int) < 12) = true := by simp; omega
    go_wp2_with fail
    refine (k_takesT i (by omega) X fb f L wr hfr).mono ?_
    rintro o w1 ⟨rfl, hk⟩
    obtain ⟨r, hr⟩ := zn2 (takB X i)
    rw [hr]
    have hf1 := hide1 (hfr.out.kept hk)
    have hd1 := hide1 (hdr.out.kept hk)
    have K1 := hide1 (hkr.out.trans hk)
    clear hk hfr hdr hkr
    have d0 := hd1.out.cell 0 _ rfl
    have d1 := hd1.out.cell 1 _ rfl
    cases r
    . clear hr
      exact zq403
    . have q := H.out.a i hlt hr
      have q2 : (k != 2) = false := by simp [q.1]
      have q2' : (k == 2) = true := by simp [q.1]
      have R1 := hide1 (k_rankT i (by omega) X fb f L w1 hf1)
      have R2 := hide1 (k_rankT c (by omega) X fb f L w1 hf1)
      have q3 : decide (((rankD X i : Nat) : Int) < ((rankD X c : Nat) : Int)) = false := by simp; exact q.2
      have q4 : decide (rankD X i < rankD X c) = false := by simp; exact q.2
      obtain ⟨ra, hra⟩ := zn2 (rankD X i)
      obtain ⟨rc, hrc⟩ := zn2 (rankD X c)
      rw [hra] at R1 q3 q4
      rw [hrc] at R2 q3 q4
      clear hr q hra hrc
      go_wp2_with fail
      refine R1.out.mono ?_
      rintro o wq ⟨rfl, hwq⟩
      rw [hwq]
      clear hwq wq R1
      go_wp2_with fail
      refine R2.out.mono ?_
      rintro o wq ⟨rfl, hwq⟩
      rw [hwq]
      clear hwq wq R2
      exact zq403
  . have hlt' : decide ((i : Int) < 12) = false := by simp; omega
    have d0 := hdr.out.cell 0 _ rfl
    have d1 := hdr.out.cell 1 _ rfl
    by_cases h2 : k = 2
    . have q2 : (k == 2) = true := by simp [h2]
      have tk' := H.out.b h2
      clear h2
      go_wp2_with fail
      refine (k_takesT c (by omega) X fb f L wr hfr).mono ?_
      rintro o w1 ⟨rfl, hk⟩
      rw [tk']
      have K1 := hide1 (hkr.out.trans hk)
      clear hk hfr hdr hkr
      go_wp2_with fail
      go_ret
      exact ⟨rfl, K1.out⟩
    . have q2 : (k == 2) = false := by simp [h2]
      have c3 := hfr.out.cell 3 _ rfl
      have c4 := hfr.out.cell 4 _ rfl
      have cl := hfr.out.lt
      have dl := hdr.out.lt
      by_cases h3 : k = 3
      . have q3 : (k != 3) = false := by simp [h3]
        have q3' : (k == 3) = true := by simp [h3]
        have a0 : bits .and .i64 f.ip f.ie = 0 := by rw [L.out.ask, H.out.d h3]; rfl
        exact zq404
      . have q3 : (k != 3) = true := by simp [h3]
        have q3' : (k == 3) = false := by simp [h3]
        exact zq404
end
end Go.Proofs.YtmlgonbhoknoiabGreatDoor
