import Derived.Test.YtmlgonbhoknoiabGreatDoorYAF
set_option maxHeartbeats 8000000
set_option linter.all false
namespace Go.Proofs.YtmlgonbhoknoiabGreatDoor
open Go.RowKit Go.Proofs.Tryz
section
attribute [local go_sem ↓] Go.wp_at_zero Go.wp_at_succ
set_option maxRecDepth 100000 in
theorem k_crosses (a b c : Int) (w : World) : Calls prog 46 #[.int .i64 a, .int .i64 b, .int .i64 c] w fun o w' => BoolR o /\ Kept [] w w' := by
 go_enter func46, ntmps46
 go_wp2_with fail
 refine (k_mapper _ _ _ _ _ w).mono ?_
 rintro o w2 ⟨rfl | ⟨mb, rb, l1, l2, rfl, hm⟩, hk⟩
 . exact zq385
 have M2 := hide1 hm
 have K2 := hide1 hk
 clear hm hk
 go_wp2_with fail
 all_goals
  refine (u_Le4' _ _).mono ?_
  rintro o w3 ⟨⟨A, hA, rfl⟩, hk⟩
  have M3 := hide1 (M2.out.kept hk)
  have K3 := hide1 (K2.out.trans hk)
  clear hk M2 K2 hA
  go_wp2_with (go_at_call 23; refine (m_Load _ _ _ _ _ w3 M3.out).mono ?_; rintro o w4 ⟨⟨e, rfl⟩, hm, hk⟩; have M4 := hide1 hm; have K4 := hide1 (kept_new K3.out hk l1 l2); clear hm hk)
  all_goals first
   | (go_ret; exact ⟨⟨_, rfl⟩, K3.out⟩)
   | (first
       | (refine (m_Run mb rb _ 20 _ M4.out).mono ?_
          rintro o w5 ⟨⟨v, er, q0, q1, rfl⟩, hm, hk⟩
          have M5 := hide1 hm
          have K5 := hide1 (kept_new K4.out hk l1 l2)
          clear hm hk)
       | (refine (m_Run mb rb _ 20 _ M3.out).mono ?_
          rintro o w5 ⟨⟨v, er, q0, q1, rfl⟩, hm, hk⟩
          have M5 := hide1 hm
          have K5 := hide1 (kept_new K3.out hk l1 l2)
          clear hm hk)
      go_wp2_with fail
      refine (k_wordAt mb rb 16384 _ (by omega) (by omega) w5 M5).mono ?_
      rintro o w6 ⟨⟨v3, rfl⟩, hk⟩
      have M6 := hide1 (M5.out.kept hk)
      have K6 := hide1 (K5.out.trans hk)
      clear hk
      go_wp2_with fail
      refine (k_wordAt mb rb 16384 _ (by omega) (by omega) w6 M6).mono ?_
      rintro o w7 ⟨⟨v4, rfl⟩, hk⟩
      have M7 := hide1 (M6.out.kept hk)
      have K7 := hide1 (K6.out.trans hk)
      clear hk
      go_wp2_with fail
      refine (k_csr mb rb _ w7 (hide1 M7.out.m)).mono ?_
      rintro o w8 ⟨⟨v5, p2, p3, rfl⟩, hk⟩
      have M8 := hide1 (M7.out.kept hk)
      have K8 := hide1 (K7.out.trans hk)
      clear hk
      go_wp2_with fail
      refine (k_csr mb rb _ w8 (hide1 M8.out.m)).mono ?_
      rintro o w9 ⟨⟨v6, p4, p5, rfl⟩, hk⟩
      have K9 := hide1 (K8.out.trans hk)
      clear hk
      go_wp2_with fail
      all_goals
       go_ret
       exact ⟨⟨_, rfl⟩, K9.out⟩)
def KRes (k : Int) (e : Ending) : Prop := ∃ r, e = .returned (.bool r) /\ Hid (¬ (k = 17 \/ (33 <= k /\ k <= 43)) -> r = true)
set_option maxRecDepth 100000 in
theorem k_lab33 (a b c : Int) (s : ByteArray) (hx : LOk ⟨33, a, b, c, s⟩) (w : World) (ht : Hid (Tb w)) : Calls prog 27 #[.agg #[.int .i64 33, .int .i64 a, .int .i64 b, .int .i64 c, .string s]] w fun e w' => KRes 33 e /\ Kept [] w w' := by
 have k0 : Kept [] w (w.alloc (.cells #[.int .i64 33, .int .i64 a, .int .i64 b, .int .i64 c, .string s] 36)) := zq136
 have T0 : Hid (Tb (w.alloc (.cells #[.int .i64 33, .int .i64 a, .int .i64 b, .int .i64 c, .string s] 36))) := zq139
 have a0 := hx.a0
 have a1 := hx.a1
 have c0 := hx.c0
 have c1 := hx.c1
 have s1 := hx.s1
 dsimp only at a0 a1 c0 c1 s1
 have K0 := hide1 k0
 clear k0 hx ht
 go_enter func27, ntmps27
 go_wp2_with fail
 refine (k_maths a b _).mono ?_
 exact zq388
set_option maxRecDepth 100000 in
theorem k_lab34 (a b c : Int) (s : ByteArray) (hx : LOk ⟨34, a, b, c, s⟩) (w : World) (ht : Hid (Tb w)) : Calls prog 27 #[.agg #[.int .i64 34, .int .i64 a, .int .i64 b, .int .i64 c, .string s]] w fun e w' => KRes 34 e /\ Kept [] w w' := by
 have k0 : Kept [] w (w.alloc (.cells #[.int .i64 34, .int .i64 a, .int .i64 b, .int .i64 c, .string s] 36)) := zq136
 have T0 : Hid (Tb (w.alloc (.cells #[.int .i64 34, .int .i64 a, .int .i64 b, .int .i64 c, .string s] 36))) := zq139
 have a0 := hx.a0
 have a1 := hx.a1
 have c0 := hx.c0
 have c1 := hx.c1
 have s1 := hx.s1
 dsimp only at a0 a1 c0 c1 s1
 have K0 := hide1 k0
 clear k0 hx ht
 go_enter func27, ntmps27
 go_wp2_with fail
 refine (k_echo s s1 _).mono ?_
 exact zq388
set_option maxRecDepth 100000 in
theorem k_lab35 (a b c : Int) (s : ByteArray) (hx : LOk ⟨35, a, b, c, s⟩) (w : World) (ht : Hid (Tb w)) : Calls prog 27 #[.agg #[.int .i64 35, .int .i64 a, .int .i64 b, .int .i64 c, .string s]] w fun e w' => KRes 35 e /\ Kept [] w w' := by
 have k0 : Kept [] w (w.alloc (.cells #[.int .i64 35, .int .i64 a, .int .i64 b, .int .i64 c, .string s] 36)) := zq136
 have T0 : Hid (Tb (w.alloc (.cells #[.int .i64 35, .int .i64 a, .int .i64 b, .int .i64 c, .string s] 36))) := zq139
 have a0 := hx.a0
 have a1 := hx.a1
 have c0 := hx.c0
 have c1 := hx.c1
 have s1 := hx.s1
 dsimp only at a0 a1 c0 c1 s1
 have K0 := hide1 k0
 clear k0 hx ht
 go_enter func27, ntmps27
 go_wp2_with fail
 refine (k_alarm a b _).mono ?_
 exact zq388
set_option maxRecDepth 100000 in
theorem k_lab36 (a b c : Int) (s : ByteArray) (hx : LOk ⟨36, a, b, c, s⟩) (w : World) (ht : Hid (Tb w)) : Calls prog 27 #[.agg #[.int .i64 36, .int .i64 a, .int .i64 b, .int .i64 c, .string s]] w fun e w' => KRes 36 e /\ Kept [] w w' := by
 have k0 : Kept [] w (w.alloc (.cells #[.int .i64 36, .int .i64 a, .int .i64 b, .int .i64 c, .string s] 36)) := zq136
 have T0 : Hid (Tb (w.alloc (.cells #[.int .i64 36, .int .i64 a, .int .i64 b, .int .i64 c, .string s] 36))) := zq139
 have a0 := hx.a0
 have a1 := hx.a1
 have c0 := hx.c0
 have c1 := hx.c1
 have s1 := hx.s1
 dsimp only at a0 a1 c0 c1 s1
 have K0 := hide1 k0
 clear k0 hx ht
 go_enter func27, ntmps27
 go_wp2_with fail
 refine (k_self a _).mono ?_
 exact zq388
set_option maxRecDepth 100000 in
theorem k_lab39 (a b c : Int) (s : ByteArray) (hx : LOk ⟨39, a, b, c, s⟩) (w : World) (ht : Hid (Tb w)) : Calls prog 27 #[.agg #[.int .i64 39, .int .i64 a, .int .i64 b, .int .i64 c, .string s]] w fun e w' => KRes 39 e /\ Kept [] w w' := by
 have k0 : Kept [] w (w.alloc (.cells #[.int .i64 39, .int .i64 a, .int .i64 b, .int .i64 c, .string s] 36)) := zq136
 have T0 : Hid (Tb (w.alloc (.cells #[.int .i64 39, .int .i64 a, .int .i64 b, .int .i64 c, .string s] 36))) := zq139
 have a0 := hx.a0
 have a1 := hx.a1
 have c0 := hx.c0
 have c1 := hx.c1
 have s1 := hx.s1
 dsimp only at a0 a1 c0 c1 s1
 have K0 := hide1 k0
 clear k0 hx ht
 go_enter func27, ntmps27
 go_wp2_with fail
 refine (k_maps a b c c0 c1 _).mono ?_
 exact zq388
set_option maxRecDepth 100000 in
theorem k_lab40 (a b c : Int) (s : ByteArray) (hx : LOk ⟨40, a, b, c, s⟩) (w : World) (ht : Hid (Tb w)) : Calls prog 27 #[.agg #[.int .i64 40, .int .i64 a, .int .i64 b, .int .i64 c, .string s]] w fun e w' => KRes 40 e /\ Kept [] w w' := by
 have k0 : Kept [] w (w.alloc (.cells #[.int .i64 40, .int .i64 a, .int .i64 b, .int .i64 c, .string s] 36)) := zq136
 have T0 : Hid (Tb (w.alloc (.cells #[.int .i64 40, .int .i64 a, .int .i64 b, .int .i64 c, .string s] 36))) := zq139
 have a0 := hx.a0
 have a1 := hx.a1
 have c0 := hx.c0
 have c1 := hx.c1
 have s1 := hx.s1
 dsimp only at a0 a1 c0 c1 s1
 have K0 := hide1 k0
 clear k0 hx ht
 go_enter func27, ntmps27
 go_wp2_with fail
 refine (k_crosses a b c _).mono ?_
 exact zq388
set_option maxRecDepth 100000 in
theorem k_lab41 (a b c : Int) (s : ByteArray) (hx : LOk ⟨41, a, b, c, s⟩) (w : World) (ht : Hid (Tb w)) : Calls prog 27 #[.agg #[.int .i64 41, .int .i64 a, .int .i64 b, .int .i64 c, .string s]] w fun e w' => KRes 41 e /\ Kept [] w w' := by
 have k0 : Kept [] w (w.alloc (.cells #[.int .i64 41, .int .i64 a, .int .i64 b, .int .i64 c, .string s] 36)) := zq136
 have T0 : Hid (Tb (w.alloc (.cells #[.int .i64 41, .int .i64 a, .int .i64 b, .int .i64 c, .string s] 36))) := zq139
 have a0 := hx.a0
 have a1 := hx.a1
 have c0 := hx.c0
 have c1 := hx.c1
 have s1 := hx.s1
 dsimp only at a0 a1 c0 c1 s1
 have K0 := hide1 k0
 clear k0 hx ht
 go_enter func27, ntmps27
 go_wp2_with fail
 refine (k_loads a b _).mono ?_
 exact zq388
set_option maxRecDepth 100000 in
theorem k_lab42 (a b c : Int) (s : ByteArray) (hx : LOk ⟨42, a, b, c, s⟩) (w : World) (ht : Hid (Tb w)) : Calls prog 27 #[.agg #[.int .i64 42, .int .i64 a, .int .i64 b, .int .i64 c, .string s]] w fun e w' => KRes 42 e /\ Kept [] w w' := by
 have k0 : Kept [] w (w.alloc (.cells #[.int .i64 42, .int .i64 a, .int .i64 b, .int .i64 c, .string s] 36)) := zq136
 have T0 : Hid (Tb (w.alloc (.cells #[.int .i64 42, .int .i64 a, .int .i64 b, .int .i64 c, .string s] 36))) := zq139
 have a0 := hx.a0
 have a1 := hx.a1
 have c0 := hx.c0
 have c1 := hx.c1
 have s1 := hx.s1
 dsimp only at a0 a1 c0 c1 s1
 have K0 := hide1 k0
 clear k0 hx ht
 go_enter func27, ntmps27
 go_wp2_with fail
 refine (k_branches a b _).mono ?_
 exact zq388
set_option maxRecDepth 100000 in
theorem k_lab43 (a b c : Int) (s : ByteArray) (hx : LOk ⟨43, a, b, c, s⟩) (w : World) (ht : Hid (Tb w)) : Calls prog 27 #[.agg #[.int .i64 43, .int .i64 a, .int .i64 b, .int .i64 c, .string s]] w fun e w' => KRes 43 e /\ Kept [] w w' := by
 have k0 : Kept [] w (w.alloc (.cells #[.int .i64 43, .int .i64 a, .int .i64 b, .int .i64 c, .string s] 36)) := zq136
 have T0 : Hid (Tb (w.alloc (.cells #[.int .i64 43, .int .i64 a, .int .i64 b, .int .i64 c, .string s] 36))) := zq139
 have a0 := hx.a0
 have a1 := hx.a1
 have c0 := hx.c0
 have c1 := hx.c1
 have s1 := hx.s1
 dsimp only at a0 a1 c0 c1 s1
 have K0 := hide1 k0
 clear k0 hx ht
 go_enter func27, ntmps27
 go_wp2_with fail
 refine (k_amos a b _).mono ?_
 exact zq388
set_option maxRecDepth 100000 in
theorem k_lab38 (a b c : Int) (s : ByteArray) (hx : LOk ⟨38, a, b, c, s⟩) (w : World) (ht : Hid (Tb w)) : Calls prog 27 #[.agg #[.int .i64 38, .int .i64 a, .int .i64 b, .int .i64 c, .string s]] w fun e w' => KRes 38 e /\ Kept [] w w' := by
 have k0 : Kept [] w (w.alloc (.cells #[.int .i64 38, .int .i64 a, .int .i64 b, .int .i64 c, .string s] 36)) := zq136
 have T0 : Hid (Tb (w.alloc (.cells #[.int .i64 38, .int .i64 a, .int .i64 b, .int .i64 c, .string s] 36))) := zq139
 have a0 := hx.a0
 have a1 := hx.a1
 have c0 := hx.c0
 have c1 := hx.c1
 have s1 := hx.s1
 dsimp only at a0 a1 c0 c1 s1
 have K0 := hide1 k0
 clear k0 hx ht
 go_enter func27, ntmps27
 go_wp2_with fail
 refine (k_pair a b _).mono ?_
 exact zq388
set_option maxRecDepth 100000 in
theorem k_lab17 (a b c : Int) (s : ByteArray) (hx : LOk ⟨17, a, b, c, s⟩) (w : World) (ht : Hid (Tb w)) : Calls prog 27 #[.agg #[.int .i64 17, .int .i64 a, .int .i64 b, .int .i64 c, .string s]] w fun e w' => KRes 17 e /\ Kept [] w w' := by
 have k0 : Kept [] w (w.alloc (.cells #[.int .i64 17, .int .i64 a, .int .i64 b, .int .i64 c, .string s] 36)) := zq136
 have T0 : Hid (Tb (w.alloc (.cells #[.int .i64 17, .int .i64 a, .int .i64 b, .int .i64 c, .string s] 36))) := zq139
 have a0 := hx.a0
 have a1 := hx.a1
 have c0 := hx.c0
 have c1 := hx.c1
 have s1 := hx.s1
 dsimp only at a0 a1 c0 c1 s1
 have K0 := hide1 k0
 clear k0 hx ht
 go_enter func27, ntmps27
 go_wp2_with fail
 refine (k_wordW b _ T0).mono ?_
 rintro e w1 ⟨⟨r, rfl⟩, hb⟩
 have K1 := hide1 (K0.out.trans (Below.k hb))
 clear hb K0 T0
 exact zq389
set_option maxRecDepth 100000 in
theorem k_lab37 (a b c : Int) (s : ByteArray) (hx : LOk ⟨37, a, b, c, s⟩) (w : World) (ht : Hid (Tb w)) : Calls prog 27 #[.agg #[.int .i64 37, .int .i64 a, .int .i64 b, .int .i64 c, .string s]] w fun e w' => KRes 37 e /\ Kept [] w w' := by
 have k0 : Kept [] w (w.alloc (.cells #[.int .i64 37, .int .i64 a, .int .i64 b, .int .i64 c, .string s] 36)) := zq136
 have T0 : Hid (Tb (w.alloc (.cells #[.int .i64 37, .int .i64 a, .int .i64 b, .int .i64 c, .string s] 36))) := zq139
 have a0 := hx.a0
 have a1 := hx.a1
 have c0 := hx.c0
 have c1 := hx.c1
 have s1 := hx.s1
 dsimp only at a0 a1 c0 c1 s1
 have K0 := hide1 k0
 clear k0 hx ht
 go_enter func27, ntmps27
 go_wp2_with fail
 refine (k_pick a a0 a1 96 (by decide) (by decide) _).mono ?_
 rintro e w1 ⟨⟨j, hj, rfl⟩, hw1⟩
 have T1 : Hid (Tb w1) := by rw [hw1]; exact T0
 have K1 : Hid (Kept [] w w1) := by rw [hw1]; exact K0
 clear hw1 T0 K0
 go_wp2_with fail
 refine (k_goldW j hj _ T1).mono ?_
 rintro e w2 ⟨⟨r, rfl⟩, hb⟩
 have K2 := hide1 (K1.out.trans (Below.k hb))
 clear hb K1 T1
 go_wp2_with fail
 go_ret
 exact ⟨⟨r, rfl, hide1 (by omega)⟩, K2.out⟩
set_option maxRecDepth 100000 in
theorem k_labN (k a b c : Int) (s : ByteArray) (hk : ¬ (k = 17 \/ (33 <= k /\ k <= 43))) (w : World) : Calls prog 27 #[.agg #[.int .i64 k, .int .i64 a, .int .i64 b, .int .i64 c, .string s]] w fun e w' => KRes k e /\ Kept [] w w' := by
 have K0 : Hid (Kept [] w (w.alloc (.cells #[.int .i64 k, .int .i64 a, .int .i64 b, .int .i64 c, .string s] 36))) := hide1 ((Kept.refl _ _).alloc _)
 have q17 : (k == 17) = false := by simp; omega
 have q33 : (k == 33) = false := by simp; omega
 have q34 : (k == 34) = false := by simp; omega
 have q35 : (k == 35) = false := by simp; omega
 have q36 : (k == 36) = false := by simp; omega
 have q37 : (k == 37) = false := by simp; omega
 have q38 : (k == 38) = false := by simp; omega
 have q39 : (k == 39) = false := by simp; omega
 have q40 : (k == 40) = false := by simp; omega
 have q41 : (k == 41) = false := by simp; omega
 have q42 : (k == 42) = false := by simp; omega
 have q43 : (k == 43) = false := by simp; omega
 clear hk
 go_enter func27, ntmps27
 go_wp2_with fail
 go_ret
 exact ⟨⟨true, rfl, hide1 (fun _ => rfl)⟩, K0.out⟩
theorem k_lab (x : LOp) (hx : LOk x) (w : World) (ht : Hid (Tb w)) : Calls prog 27 #[x.v] w fun e w' => KRes x.k e /\ Kept [] w w' := by
 obtain ⟨k, a, b, c, s⟩ := x
 unfold LOp.v
 simp only
 by_cases h : k = 17 \/ (33 <= k /\ k <= 43)
 . have : k = 17 \/ k = 33 \/ k = 34 \/ k = 35 \/ k = 36 \/ k = 37 \/ k = 38 \/ k = 39 \/ k = 40 \/ k = 41 \/ k = 42 \/ k = 43 := by omega
   rcases this with rfl | rfl | rfl | rfl | rfl | rfl | rfl | rfl | rfl | rfl | rfl | rfl
   . exact k_lab17 a b c s hx w ht
   . exact k_lab33 a b c s hx w ht
   . exact k_lab34 a b c s hx w ht
   . exact k_lab35 a b c s hx w ht
   . exact k_lab36 a b c s hx w ht
   . exact k_lab37 a b c s hx w ht
   . exact k_lab38 a b c s hx w ht
   . exact k_lab39 a b c s hx w ht
   . exact k_lab40 a b c s hx w ht
   . exact k_lab41 a b c s hx w ht
   . exact k_lab42 a b c s hx w ht
   . exact k_lab43 a b c s hx w ht
 . exact k_labN k a b c s h w
def KR (k : Int) (e : Ending) : Prop := ∃ r, e = .returned (.bool r) /\ Hid (k = 1 \/ k = 9 \/ k = 3 -> r = true)
theorem kr_true (k : Int) : KR k (.returned (.bool true)) := ⟨true, rfl, hide1 (fun _ => rfl)⟩
set_option maxRecDepth 100000 in
theorem k_step1 (wb n : Nat) (hn : n < 1073741824) (a b c : Int) (s : ByteArray) (w : World) (hw : Hid (KwH w wb n)) :
 Calls prog 17 #[.pointer (some ⟨wb, 0, none⟩), .agg #[.int .i64 1, .int .i64 a, .int .i64 b, .int .i64 c, .string s]] w fun e w' => e = .returned (.bool true) /\ KwH w' wb (n + 1) /\ Below wb w w' := by
 have k0 : Kept [] w (w.alloc (.cells #[.int .i64 1, .int .i64 a, .int .i64 b, .int .i64 c, .string s] 36)) := zq136
 have ob0 := BoxF.new w [.int .i64 1, .int .i64 a, .int .i64 b, .int .i64 c, .string s] 36
 have l0 := hw.out.lt
 by_cases hx : 0 <= b /\ b <= 65536
 . obtain ⟨z, rfl⟩ : ∃ z : Nat, b = z := ⟨b.toNat, by omega⟩
   have hz : z <= 65536 := by omega
   obtain ⟨W0, hW0⟩ := zn1 (w.alloc (.cells #[.int .i64 1, .int .i64 a, .int .i64 (z : Int), .int .i64 c, .string s] 36))
   rw [<- hW0] at k0 ob0
   obtain ⟨P, u, hL', hP⟩ := hw.out
   have nbox : ¬ u.ownBlock = some w.heap.size := fun e => by have := (hL'.ox.lt _ e).2; omega
   have hL := hL'.keep k0
   have N := hide1 (m_New z hz W0)
   have lW := k0.size
   have HL := hide1 hL
   have q0 : decide (0 <= (z : Int)) = true := by simp
   have q1 : decide ((z : Int) <= 65536) = true := by simp; omega
   have K0 := hide1 k0
   have lb := hL.lt
   have hs0 : w.heap.size < W0.heap.size := by rw [hW0]; simp
   clear hx hw k0 hL
   go_enter func17, ntmps17
   go_wp2_with fail
   rw [<- hW0]
   clear hW0
   refine N.out.mono ?_
   rintro o w1 ⟨rfl, hm1, hk1⟩
   have J := hide1 (k_join wb P u ⟨W0.heap.size + 1, W0.heap.size, z⟩ W0.heap.size zq539 lb (fun k hk => (HL.out.ox.lt k hk).2) (fun a ha => ⟨((HL.out.pr a ha).m.lt).1, ((HL.out.pr a ha).m.lt).2⟩) (by omega) w1 (hide1 (HL.out.keep hk1)) (hide1 hm1))
   have ob1 := ob0.kept hk1
   have B1 : Hid (Below wb w w1) := hide1 (kept_below (K0.out.trans hk1) (by simp) (by omega))
   have nob : ¬ w.heap.size ∈ wb :: u.ownBlock.toList := by
    intro q
    simp at q
    rcases q with e | e
    . omega
    . exact nbox e
   have nge : ∀ k ∈ wb :: u.ownBlock.toList, wb <= k := by
    intro k q
    simp at q
    rcases q with e | e
    . omega
    . have := (HL.out.ox.lt k e).1; omega
   have lb1 : wb < w1.heap.size := Nat.lt_of_lt_of_le lb hk1.size
   clear N hm1 hk1 HL ob0 K0
   go_wp2_with fail
   refine J.out.mono ?_
   rintro o w2 ⟨rfl, hl2, hb2⟩
   have ob2 := ob1.more hb2 nob
   have e2 := ob2.cell 2 _ rfl
   have B2 : Hid (Below wb w w2) := hide1 (B1.out.trans (kept_below hb2 nge (Nat.le_of_lt lb1)))
   have L2 := hide1 (hl2.mono (show P.length + 1 <= n + 1 by omega))
   clear hl2 hb2 J B1
   go_wp2_with fail
   go_ret
   exact ⟨rfl, L2.out, B2.out⟩
 . have N := hide1 (x_New_no b (by omega) (w.alloc (.cells #[.int .i64 1, .int .i64 a, .int .i64 b, .int .i64 c, .string s] 36)))
   have L0 := hide1 ((hw.out.keep k0).mono (show n <= n + 1 by omega))
   have B0 : Hid (Below wb w (w.alloc (.cells #[.int .i64 1, .int .i64 a, .int .i64 b, .int .i64 c, .string s] 36))) := hide1 (kept_below k0 (by simp) (by omega))
   by_cases hb : 0 <= b
   . have q0 : decide (0 <= b) = true := by simp [hb]
     have q1 : decide (b <= 65536) = false := by simp; omega
     exact zq390
   . have q0 : decide (0 <= b) = false := by simp; omega
     exact zq390
def KPost (wb n : Nat) (k : Int) (w : World) (e : Ending) (w' : World) : Prop := KR k e /\ KwH w' wb (n + 1) /\ Below wb w w'
set_option maxRecDepth 100000 in
theorem k_step0 (wb n : Nat) (x : LOp) (hx : LOk x) (hk : ¬ x.k = 1) (w : World) (ht : Hid (Tb w)) (p : Option Addr) (cap : Nat) (c0 : w.cell? ⟨wb, 0, none⟩ = some (.slice p 0 cap)) (hw : Hid (KwH w wb n)) :
 Calls prog 17 #[.pointer (some ⟨wb, 0, none⟩), x.v] w fun e w' => KPost wb n x.k w e w' := by
 have k0 : Kept [] w (w.alloc (.cells #[.int .i64 x.k, .int .i64 x.a, .int .i64 x.b, .int .i64 x.c, .string x.s] 36)) := zq136
 have LA := hide1 (k_lab x hx _ (hide1 (ht.out.more ((Below.refl _ _).alloc (Nat.le_refl _) (.cells #[.int .i64 x.k, .int .i64 x.a, .int .i64 x.b, .int .i64 x.c, .string x.s] 36)))))
 have H0 := hide1 (hw.out.keep k0)
 have B0 : Hid (Below wb w (w.alloc (.cells #[.int .i64 x.k, .int .i64 x.a, .int .i64 x.b, .int .i64 x.c, .string x.s] 36))) := hide1 (kept_below k0 (by simp) (Nat.le_of_lt hw.out.lt))
 have hl := hw.out.lt
 have hl' : ¬ wb = w.heap.size := by omega
 have C0 := hide1 c0
 have K0 := hide1 k0
 obtain ⟨k, a, b, c, s⟩ := x
 unfold LOp.v at LA |-
 simp only at hk LA H0 B0 K0 |-
 have q1 : (k == 1) = false := by simp [hk]
 clear k0 hk ht hx hw c0
 go_enter func17, ntmps17
 go_wp2_with fail
 refine LA.out.mono ?_
 rintro o w1 ⟨⟨r, rfl, hr⟩, hk1⟩
 have L1 := hide1 ((H0.out.keep hk1).mono (show n <= n + 1 by omega))
 have B1 : Hid (Below wb w w1) := hide1 (B0.out.trans (kept_below hk1 (by simp) (Nat.le_of_lt H0.out.lt)))
 have d0 : w1.cell? ⟨wb, 0, none⟩ = some (.slice p 0 cap) := ((K0.out.trans hk1).cell hl (by simp)).trans C0.out
 have dl := L1.out.lt
 clear LA hk1 H0 B0 K0 C0
 cases r
 . go_wp2_with fail
   go_ret
   exact ⟨⟨false, rfl, hide1 (fun h => hr.out (by omega))⟩, L1.out, B1.out⟩
 . go_wp2_with fail
   go_ret
   exact ⟨kr_true k, L1.out, B1.out⟩
structure Fc where
 mode : Int
 pc : Int
 status : Int
 ie : Int
 ip : Int
 mideleg : Int
 medeleg : Int
 satp : Int
 inhibit : Int
 cycle : Int
 cycleh : Int
 ret : Int
 reth : Int
 ram : ByteArray
 regs : ByteArray
def Fc.l (f : Fc) : List Value := [.int .i64 f.mode, .int .i64 f.pc, .int .i64 f.status, .int .i64 f.ie, .int .i64 f.ip, .int .i64 f.mideleg, .int .i64 f.medeleg, .int .i64 f.satp, .int .i64 f.inhibit, .int .i64 f.cycle, .int .i64 f.cycleh, .int .i64 f.ret, .int .i64 f.reth, .string f.ram, .string f.regs]
structure FcOk (f : Fc) (z : Nat) : Prop where
 mode : 0 <= f.mode /\ f.mode < 4294967296
 pc : 0 <= f.pc /\ f.pc < 4294967296
 status : 0 <= f.status /\ f.status < 4294967296
 ie : 0 <= f.ie /\ f.ie < 4294967296
 ip : 0 <= f.ip /\ f.ip < 4294967296
 mideleg : 0 <= f.mideleg /\ f.mideleg < 4294967296
 medeleg : 0 <= f.medeleg /\ f.medeleg < 4294967296
 satp : 0 <= f.satp /\ f.satp < 4294967296
 inhibit : 0 <= f.inhibit /\ f.inhibit < 4294967296
 cycle : 0 <= f.cycle /\ f.cycle < 4294967296
 cycleh : 0 <= f.cycleh /\ f.cycleh < 4294967296
 ret : 0 <= f.ret /\ f.ret < 4294967296
 reth : 0 <= f.reth /\ f.reth < 4294967296
 ram : f.ram.size = z
 regs : f.regs.size = 128
theorem Mz.set {w : World} {mb rb z : Nat} (h : Mz w mb rb z) (b k : Nat) (v : Value) (h1 : mb ≠ b) (h2 : rb ≠ b) : Mz (w.setCell ⟨b, k, none⟩ v) mb rb z := h.more ((Kept.refl [b] _).setCell (.inl (by simp)) v) (by simpa using h1) (by simpa using h2)
theorem BoxF.set {w : World} {b : Nat} {cs : List Value} (h : BoxF w b cs) (k : Nat) (v : Value) (hk : k < cs.length) : BoxF (w.setCell ⟨b, k, none⟩ v) b (cs.set k v) := by
 refine ⟨fun j x hx => ?_, fun o => by rw [World.frozen?_setCell]; exact h.fro o, Nat.lt_of_lt_of_le h.lt ((Kept.refl [b] w).setCell (.inl (by simp)) v).size⟩
 by_cases hj : k = j
 . subst hj
   rw [List.getElem?_set_self hk] at hx
   have e : x = v := (Option.some.inj hx).symm
   rw [e]
   exact World.cell?_setCell_same _ _ _ (h.cell k _ (List.getElem?_eq_getElem hk))
 . rw [List.getElem?_set_ne hj] at hx
   rw [World.cell?_setCell_other _ _ _ _ (by first | (simp; done) | (simp; omega))]
   exact h.cell j x hx
structure FcX (X : XS) (f : Fc) : Prop where
 mode : f.mode = (X.mode : Nat)
 pc : f.pc = (X.pc : Nat)
 status : f.status = ((xcsrE X 768).1 : Nat)
 ie : f.ie = ((xcsrE X 772).1 : Nat)
 ip : f.ip = ((xcsrE X 836).1 : Nat)
 mideleg : f.mideleg = ((xcsrE X 771).1 : Nat)
 medeleg : f.medeleg = ((xcsrE X 770).1 : Nat)
 satp : f.satp = ((xcsrE X 384).1 : Nat)
 inhibit : f.inhibit = ((xcsrE X 800).1 : Nat)
 cycle : f.cycle = ((xcsrE X 2816).1 : Nat)
 cycleh : f.cycleh = ((xcsrE X 2944).1 : Nat)
 ret : f.ret = ((xcsrE X 2818).1 : Nat)
 reth : f.reth = ((xcsrE X 2946).1 : Nat)
 ram : f.ram = pkB X.b.ram 0 X.b.ram.length
 regs : f.regs = (showX X).extract 4 132
theorem show_size {X : XS} (h : XOk X) : 200 <= (showX X).size /\ (showX X).size <= 300 := by
 have q1 := h.b.rx
 have q2 := h.b.tx
 unfold showX
 rw [ByteArray.size_append, ByteArray.size_append, ByteArray.size_append, hartS_size, csrS_size, timerS_size, portS_size]
 omega
theorem FcX.ok {X : XS} {f : Fc} {z : Nat} (h : FcX X f) (hX : XInv X) (hz : X.b.ram.length = z) : FcOk f z := by
 have e := fun n => rcs_lt X hX.ok n
 have e' : ∀ n, (xcsrE X n).1 < 4294967296 := by
  intro n
  have := e n
  unfold xcsrE
  split
  . exact this
  . decide
 have m := hX.ok.mode
 have p := hX.ok.pc
 have sz := show_size hX.ok
 refine ⟨by rw [h.mode]; omega, by rw [h.pc]; omega, by rw [h.status]; have := e' 768; omega, by rw [h.ie]; have := e' 772; omega, by rw [h.ip]; have := e' 836; omega, by rw [h.mideleg]; have := e' 771; omega, by rw [h.medeleg]; have := e' 770; omega, by rw [h.satp]; have := e' 384; omega, by rw [h.inhibit]; have := e' 800; omega, by rw [h.cycle]; have := e' 2816; omega, by rw [h.cycleh]; have := e' 2944; omega, by rw [h.ret]; have := e' 2818; omega, by rw [h.reth]; have := e' 2946; omega, by rw [h.ram, pkB_size _ _ _ (by omega)]; exact hz, by rw [h.regs, ByteArray.size_extract]; omega⟩
structure Lk (w0 : World) (mb rb : Nat) (X : XS) (cs : List Value) (w : World) : Prop where
 b : BoxF w w0.heap.size cs
 m : XAt w mb rb X
 k : Kept [] w0 w
theorem Lk.set {w0 : World} {mb rb : Nat} {X : XS} {cs : List Value} {w w' : World} (h : Lk w0 mb rb X cs w) (hk : Kept [] w w') (n1 : mb < w0.heap.size) (n2 : rb < w0.heap.size) (i : Nat) (v : Value) (hi : i < cs.length := by simp) : Lk w0 mb rb X (cs.set i v) (w'.setCell ⟨w0.heap.size, i, none⟩ v) :=
 ⟨(h.b.kept hk).set i v hi, (h.m.kept hk).more ((Kept.refl [w0.heap.size] _).setCell (.inl (by simp)) v) (by simp; omega) (by simp; omega), (h.k.trans hk).setCell (.inr (Nat.le_refl _)) v⟩
set_option maxRecDepth 100000 in
theorem k_lookV (mb rb : Nat) (X : XS) (hX : XInv X) (w) (hw : Hid (XAt w mb rb X)) : Calls prog 52 #[.pointer (some ⟨mb, 0, none⟩)] w fun o w' => (∃ f : Fc, FcX X f /\ o = .returned (.pointer (some ⟨w.heap.size, 0, none⟩)) /\ BoxF w' w.heap.size f.l) /\ Kept [] w w' := by
 have n1 := hw.out.lt
 have n2 := hw.out.rlt
 have hO := hX.ok
 have zs := show_size hO
 have K0 : Kept [] w (w.alloc (.cells #[.int .i64 0, .int .i64 0, .int .i64 0, .int .i64 0, .int .i64 0, .int .i64 0, .int .i64 0, .int .i64 0, .int .i64 0, .int .i64 0, .int .i64 0, .int .i64 0, .int .i64 0, .string ⟨#[]⟩, .string ⟨#[]⟩] 97)) := zq136
 have S : Hid (Lk w mb rb X [.int .i64 0, .int .i64 0, .int .i64 0, .int .i64 0, .int .i64 0, .int .i64 0, .int .i64 0, .int .i64 0, .int .i64 0, .int .i64 0, .int .i64 0, .int .i64 0, .int .i64 0, .string ⟨#[]⟩, .string ⟨#[]⟩] (w.alloc (.cells #[.int .i64 0, .int .i64 0, .int .i64 0, .int .i64 0, .int .i64 0, .int .i64 0, .int .i64 0, .int .i64 0, .int .i64 0, .int .i64 0, .int .i64 0, .int .i64 0, .int .i64 0, .string ⟨#[]⟩, .string ⟨#[]⟩] 97))) := hide1 ⟨BoxF.new w _ _, hw.out.kept K0, K0⟩
 obtain ⟨W0, hW0⟩ := zn1 (w.alloc (.cells #[.int .i64 0, .int .i64 0, .int .i64 0, .int .i64 0, .int .i64 0, .int .i64 0, .int .i64 0, .int .i64 0, .int .i64 0, .int .i64 0, .int .i64 0, .int .i64 0, .int .i64 0, .string ⟨#[]⟩, .string ⟨#[]⟩] 97))
 rw [<- hW0] at S
 have C := hide1 (fun W n (hW : XAt W mb rb X) => k_csrV mb rb X hO n _ rfl W (hide1 hW))
 have CR := hide1 (fun W (hW : XAt W mb rb X) => k_ramV mb rb X hO _ rfl W (hide1 hW))
 have SH := hide1 (fun W (hW : XAt W mb rb X) => x_Show mb rb X hO W (hide1 hW))
 clear hw hX hO K0
 go_enter func52, ntmps52
 have lt := S.out.b.lt
 have fr := S.out.b.fro
 have ce := S.out.b.cell 0 _ rfl
 go_wp2_with fail
 rw [<- hW0]
 clear hW0
 refine (x_Mode mb rb X _ (hide1 S.out.m)).mono ?_
 rintro o w1 ⟨rfl, rfl⟩
 replace S := hide1 (S.out.set (Kept.refl [] _) n1 n2 0 (.int .i64 ((X.mode : Nat) : Int)))
 have l2 := lt
 have f2 := fr
 have c2 := ce
 clear lt fr ce
 have lt := S.out.b.lt
 have fr := S.out.b.fro
 have ce := S.out.b.cell 1 _ rfl
 go_wp2_with fail
 refine (x_Pc mb rb X _ (hide1 S.out.m)).mono ?_
 rintro o w1 ⟨rfl, rfl⟩
 replace S := hide1 (S.out.set (Kept.refl [] _) n1 n2 1 (.int .i64 ((X.pc : Nat) : Int)))
 have l2 := lt
 have f2 := fr
 have c2 := ce
 clear lt fr ce
 have lt := S.out.b.lt
 have fr := S.out.b.fro
 have ce := S.out.b.cell 2 _ rfl
 go_wp2_with fail
 refine (C.out _ _ S.out.m).mono ?_
 rintro o w1 ⟨rfl, hk⟩
 clear lt fr ce
 have lt := (S.out.b.kept hk).lt
 have fr := (S.out.b.kept hk).fro
 have ce := (S.out.b.kept hk).cell 2 _ rfl
 replace S := hide1 (S.out.set hk n1 n2 2 (.int .i64 (((xcsrE X 768).1 : Nat) : Int)))
 clear hk
 have l2 := lt
 have f2 := fr
 have c2 := ce
 clear lt fr ce
 have lt := S.out.b.lt
 have fr := S.out.b.fro
 have ce := S.out.b.cell 3 _ rfl
 go_wp2_with fail
 refine (C.out _ _ S.out.m).mono ?_
 rintro o w1 ⟨rfl, hk⟩
 clear lt fr ce
 have lt := (S.out.b.kept hk).lt
 have fr := (S.out.b.kept hk).fro
 have ce := (S.out.b.kept hk).cell 3 _ rfl
 replace S := hide1 (S.out.set hk n1 n2 3 (.int .i64 (((xcsrE X 772).1 : Nat) : Int)))
 clear hk
 have l2 := lt
 have f2 := fr
 have c2 := ce
 clear lt fr ce
 have lt := S.out.b.lt
 have fr := S.out.b.fro
 have ce := S.out.b.cell 4 _ rfl
 go_wp2_with fail
 refine (C.out _ _ S.out.m).mono ?_
 rintro o w1 ⟨rfl, hk⟩
 clear lt fr ce
 have lt := (S.out.b.kept hk).lt
 have fr := (S.out.b.kept hk).fro
 have ce := (S.out.b.kept hk).cell 4 _ rfl
 replace S := hide1 (S.out.set hk n1 n2 4 (.int .i64 (((xcsrE X 836).1 : Nat) : Int)))
 clear hk
 have l2 := lt
 have f2 := fr
 have c2 := ce
 clear lt fr ce
 have lt := S.out.b.lt
 have fr := S.out.b.fro
 have ce := S.out.b.cell 5 _ rfl
 go_wp2_with fail
 refine (C.out _ _ S.out.m).mono ?_
 rintro o w1 ⟨rfl, hk⟩
 clear lt fr ce
 have lt := (S.out.b.kept hk).lt
 have fr := (S.out.b.kept hk).fro
 have ce := (S.out.b.kept hk).cell 5 _ rfl
 replace S := hide1 (S.out.set hk n1 n2 5 (.int .i64 (((xcsrE X 771).1 : Nat) : Int)))
 clear hk
 have l2 := lt
 have f2 := fr
 have c2 := ce
 clear lt fr ce
 have lt := S.out.b.lt
 have fr := S.out.b.fro
 have ce := S.out.b.cell 6 _ rfl
 go_wp2_with fail
 refine (C.out _ _ S.out.m).mono ?_
 rintro o w1 ⟨rfl, hk⟩
 clear lt fr ce
 have lt := (S.out.b.kept hk).lt
 have fr := (S.out.b.kept hk).fro
 have ce := (S.out.b.kept hk).cell 6 _ rfl
 replace S := hide1 (S.out.set hk n1 n2 6 (.int .i64 (((xcsrE X 770).1 : Nat) : Int)))
 clear hk
 have l2 := lt
 have f2 := fr
 have c2 := ce
 clear lt fr ce
 have lt := S.out.b.lt
 have fr := S.out.b.fro
 have ce := S.out.b.cell 7 _ rfl
 go_wp2_with fail
 refine (C.out _ _ S.out.m).mono ?_
 rintro o w1 ⟨rfl, hk⟩
 clear lt fr ce
 have lt := (S.out.b.kept hk).lt
 have fr := (S.out.b.kept hk).fro
 have ce := (S.out.b.kept hk).cell 7 _ rfl
 replace S := hide1 (S.out.set hk n1 n2 7 (.int .i64 (((xcsrE X 384).1 : Nat) : Int)))
 clear hk
 have l2 := lt
 have f2 := fr
 have c2 := ce
 clear lt fr ce
 have lt := S.out.b.lt
 have fr := S.out.b.fro
 have ce := S.out.b.cell 8 _ rfl
 go_wp2_with fail
 refine (C.out _ _ S.out.m).mono ?_
 rintro o w1 ⟨rfl, hk⟩
 clear lt fr ce
 have lt := (S.out.b.kept hk).lt
 have fr := (S.out.b.kept hk).fro
 have ce := (S.out.b.kept hk).cell 8 _ rfl
 replace S := hide1 (S.out.set hk n1 n2 8 (.int .i64 (((xcsrE X 800).1 : Nat) : Int)))
 clear hk
 have l2 := lt
 have f2 := fr
 have c2 := ce
 clear lt fr ce
 have lt := S.out.b.lt
 have fr := S.out.b.fro
 have ce := S.out.b.cell 9 _ rfl
 go_wp2_with fail
 refine (C.out _ _ S.out.m).mono ?_
 rintro o w1 ⟨rfl, hk⟩
 clear lt fr ce
 have lt := (S.out.b.kept hk).lt
 have fr := (S.out.b.kept hk).fro
 have ce := (S.out.b.kept hk).cell 9 _ rfl
 replace S := hide1 (S.out.set hk n1 n2 9 (.int .i64 (((xcsrE X 2816).1 : Nat) : Int)))
 clear hk
 have l2 := lt
 have f2 := fr
 have c2 := ce
 clear lt fr ce
 have lt := S.out.b.lt
 have fr := S.out.b.fro
 have ce := S.out.b.cell 10 _ rfl
 go_wp2_with fail
 refine (C.out _ _ S.out.m).mono ?_
 rintro o w1 ⟨rfl, hk⟩
 clear lt fr ce
 have lt := (S.out.b.kept hk).lt
 have fr := (S.out.b.kept hk).fro
 have ce := (S.out.b.kept hk).cell 10 _ rfl
 replace S := hide1 (S.out.set hk n1 n2 10 (.int .i64 (((xcsrE X 2944).1 : Nat) : Int)))
 clear hk
 have l2 := lt
 have f2 := fr
 have c2 := ce
 clear lt fr ce
 have lt := S.out.b.lt
 have fr := S.out.b.fro
 have ce := S.out.b.cell 11 _ rfl
 go_wp2_with fail
 refine (C.out _ _ S.out.m).mono ?_
 rintro o w1 ⟨rfl, hk⟩
 clear lt fr ce
 have lt := (S.out.b.kept hk).lt
 have fr := (S.out.b.kept hk).fro
 have ce := (S.out.b.kept hk).cell 11 _ rfl
 replace S := hide1 (S.out.set hk n1 n2 11 (.int .i64 (((xcsrE X 2818).1 : Nat) : Int)))
 clear hk
 have l2 := lt
 have f2 := fr
 have c2 := ce
 clear lt fr ce
 have lt := S.out.b.lt
 have fr := S.out.b.fro
 have ce := S.out.b.cell 12 _ rfl
 go_wp2_with fail
 refine (C.out _ _ S.out.m).mono ?_
 rintro o w1 ⟨rfl, hk⟩
 clear lt fr ce
 have lt := (S.out.b.kept hk).lt
 have fr := (S.out.b.kept hk).fro
 have ce := (S.out.b.kept hk).cell 12 _ rfl
 replace S := hide1 (S.out.set hk n1 n2 12 (.int .i64 (((xcsrE X 2946).1 : Nat) : Int)))
 clear hk
 have l2 := lt
 have f2 := fr
 have c2 := ce
 clear lt fr ce
 have lt := S.out.b.lt
 have fr := S.out.b.fro
 have ce := S.out.b.cell 13 _ rfl
 go_wp2_with fail
 refine (CR.out _ S.out.m).mono ?_
 rintro o w1 ⟨rfl, rfl⟩
 replace S := hide1 (S.out.set (Kept.refl [] _) n1 n2 13 (.string (pkB X.b.ram 0 X.b.ram.length)))
 go_wp2_with fail
 refine (SH.out _ S.out.m).mono ?_
 rintro o w1 ⟨rfl, hk⟩
 clear lt fr ce
 have lt := (S.out.b.kept hk).lt
 have fr := (S.out.b.kept hk).fro
 have ce := (S.out.b.kept hk).cell 14 _ rfl
 have S2 := hide1 (fun v => S.out.set hk n1 n2 14 v)
 obtain ⟨x, hx⟩ := zn1 ((showX X).extract 4 132)
 have hsl : ∀ w, (Instr.slice 9 (.string (showX X)) (some (.int .i64 4)) (some (.int .i64 132)) none).run prog w = .ok (.string x) w := by
  intro w; rw [hx]; exact slice_mid _ 4 132 (by omega) (by omega) w
 have HX := hide1 hx
 clear hx hk S SH CR C
 go_wp2_with fail
 go_ret
 exact ⟨⟨⟨X.mode, X.pc, ((xcsrE X 768).1 : Nat), ((xcsrE X 772).1 : Nat), ((xcsrE X 836).1 : Nat), ((xcsrE X 771).1 : Nat), ((xcsrE X 770).1 : Nat), ((xcsrE X 384).1 : Nat), ((xcsrE X 800).1 : Nat), ((xcsrE X 2816).1 : Nat), ((xcsrE X 2944).1 : Nat), ((xcsrE X 2818).1 : Nat), ((xcsrE X 2946).1 : Nat), pkB X.b.ram 0 X.b.ram.length, x⟩, ⟨rfl, rfl, rfl, rfl, rfl, rfl, rfl, rfl, rfl, rfl, rfl, rfl, rfl, rfl, HX.out⟩, rfl, (S2.out (.string x)).b⟩, (S2.out (.string x)).k⟩
theorem k_look (mb rb z : Nat) (w : World) (hw : Hid (Mz w mb rb z)) : Calls prog 52 #[.pointer (some ⟨mb, 0, none⟩)] w fun o w' => (∃ f : Fc, FcOk f z /\ o = .returned (.pointer (some ⟨w.heap.size, 0, none⟩)) /\ BoxF w' w.heap.size f.l) /\ Kept [] w w' := by
 obtain ⟨X, h1, h2, h3⟩ := hw.out
 refine (k_lookV mb rb X h2 w (hide1 h1)).mono (fun o w' h => ⟨?_, h.2⟩)
 obtain ⟨⟨f, hf, a, b⟩, _⟩ := h
 exact ⟨f, hf.ok h2 h3, a, b⟩
theorem beqC (a b : Int) : ((a == b) = true /\ (a != b) = false) \/ ((a == b) = false /\ (a != b) = true) := by
 by_cases h : a = b
 . left; subst h; simp
 . right; simp [h]
set_option maxRecDepth 100000 in
theorem k_paged (fb : Nat) (f : Fc) (w : World) (hf : Hid (BoxF w fb f.l)) : CS 65 #[.pointer (some ⟨fb, 0, none⟩)] (.bool (!(f.mode == 3) && (f.satp / 2147483648 == 1))) w := by
 have c0 := hf.out.cell 0 _ rfl
 have c7 := hf.out.cell 7 _ rfl
 have cl := hf.out.lt
 rcases beqC f.mode 3 with ⟨ha, ha'⟩ | ⟨ha, ha'⟩ <;> rcases beqC (f.satp / 2147483648) 1 with ⟨hb, hb'⟩ | ⟨hb, hb'⟩ <;> rw [ha, hb]
 all_goals
  go_enter func65, ntmps65
  go_wp2_with fail
  go_ret
  exact ⟨rfl, rfl⟩
def Sl (w0 : World) (fb : Nat) (f : Fc) (mb rb : Nat) (X : XS) (w : World) : Prop := BoxF w fb f.l /\ XAt w mb rb X /\ Kept [] w0 w
theorem Sl.kept {w0 : World} {fb : Nat} {f : Fc} {mb rb : Nat} {X : XS} {w w' : World} (h : Sl w0 fb f mb rb X w) (hk : Kept [] w w') : Sl w0 fb f mb rb X w' := ⟨h.1.kept hk, h.2.1.kept hk, h.2.2.trans hk⟩
theorem Sl.drewN {w0 : World} {fb : Nat} {f : Fc} {mb rb : Nat} {X : XS} {w : World} (h : Sl w0 fb f mb rb X w) (n : Nat) : Sl w0 fb f mb rb X (w.drewN n) := h.kept ((Kept.refl [] w).drewN n)
theorem beqT {a b : Int} (h : a = b) : (a == b) = true /\ (a != b) = false := by subst h; simp
theorem beqF {a b : Int} (h : a ≠ b) : (a == b) = false /\ (a != b) = true := by simp [h]
theorem wout_0s {v m : Nat} (h : v &&& m = v) : wout v m = 0 := by unfold wout; rw [h]; omega
theorem andn0 {x y : Int} {v m : Nat} (e : x = (v : Nat)) (e2 : y = (m : Nat)) (hv : v < 4294967296) (hm : m < 4294967296) (h : v &&& m = v) : bits .andNot .i64 x y = 0 := by
 rw [e, e2, b_andn v m (by omega) (by omega), wout_0s h]; rfl
theorem andE {x y : Int} {v m : Nat} (e : x = (v : Nat)) (e2 : y = (m : Nat)) (hv : v < 4294967296) (hm : m < 4294967296) : bits .and .i64 x y = ((v &&& m : Nat) : Int) := by
 rw [e, e2, b_and v m (by omega) (by omega)]
theorem and_ev {v : Nat} (h : v % 2 = 0) : v &&& 1 = 0 := by rw [Nat.and_one_is_mod]; exact h
theorem and_2 {v : Nat} (h : v.testBit 1 = false) : v &&& 2 = 0 := by
 rw [Nat.and_comm, show (2 : Nat) = 2 ^ 1 from rfl, Nat.and_comm]
 apply Nat.eq_of_testBit_eq
 intro i
 rw [Nat.testBit_and, Nat.testBit_two_pow, Nat.zero_testBit]
 by_cases e : 1 = i
 . subst e; rw [h]; rfl
 . simp [e]
theorem pen_lt' {X : XS} (h : XInv X) : penD X < 4294967296 := by
 have := rcs_lt X h.ok 836
 exact this
structure Leg (X : XS) (f : Fc) : Prop where
 m : f.mode = 0 \/ f.mode = 1 \/ f.mode = 3
 a1 : bits .and .i64 (f.status / 2048) 3 ≠ 2
 a2 : bits .andNot .i64 f.status 8264106 = 0
 a3 : bits .andNot .i64 f.ie 2730 = 0
 a4 : bits .andNot .i64 f.mideleg 546 = 0
 a5 : bits .andNot .i64 f.medeleg 46079 = 0
 a6 : f.mode = 3 \/ bits .and .i64 (f.status / 131072) 1 ≠ 1
 ss : (((xcsrE X 256).1 : Nat) : Int) = bits .and .i64 f.status 786722
 si : (((xcsrE X 260).1 : Nat) : Int) = bits .and .i64 f.ie f.mideleg
 sp : (((xcsrE X 324).1 : Nat) : Int) = bits .and .i64 f.ip f.mideleg
 me : bits .and .i64 (((xcsrE X 833).1 : Nat) : Int) 1 = 0
 se : bits .and .i64 (((xcsrE X 321).1 : Nat) : Int) 1 = 0
 mt : bits .and .i64 (((xcsrE X 773).1 : Nat) : Int) 2 = 0
 st : bits .and .i64 (((xcsrE X 261).1 : Nat) : Int) 2 = 0
 pc : bits .and .i64 f.pc 1 = 0
 cy : (((xcsrE X 3072).1 : Nat) : Int) = f.cycle
 ir : (((xcsrE X 3074).1 : Nat) : Int) = f.ret
 mi : (xcsrE X 769).1 = 1075056901
 x0 : (regU X.x 0).1 = 0
theorem leg_of {X : XS} (hX : XInv X) {f : Fc} (fx : FcX X f) : Leg X f := by
 have h := hX.ok
 have st : f.status = ((X.c.mstatus : Nat) : Int) := fx.status
 have sm := h.mstatus
 have mm := h.mode
 have md := fx.mode
 refine ⟨by omega, ?_, andn0 (m := 8264106) st rfl sm (by decide) hX.mst, andn0 (m := 2730) (show f.ie = ((X.c.mie : Nat) : Int) from fx.ie) rfl h.mie (by decide) hX.mie, andn0 (m := 546) (show f.mideleg = ((X.c.mideleg : Nat) : Int) from fx.mideleg) rfl h.mideleg (by decide) hX.mid, andn0 (m := 46079) (show f.medeleg = ((X.c.medeleg : Nat) : Int) from fx.medeleg) rfl h.medeleg (by decide) hX.med, ?_, (andE (m := 786722) st rfl sm (by decide)).symm, (andE (show f.ie = ((X.c.mie : Nat) : Int) from fx.ie) (show f.mideleg = ((X.c.mideleg : Nat) : Int) from fx.mideleg) h.mie h.mideleg).symm, (andE (show f.ip = ((penD X : Nat) : Int) from fx.ip) (show f.mideleg = ((X.c.mideleg : Nat) : Int) from fx.mideleg) (pen_lt' hX) h.mideleg).symm, ?_, ?_, ?_, ?_, ?_, fx.cycle.symm, fx.ret.symm, rfl, ?_⟩
 . rw [andE (y := 3) (v := X.c.mstatus / 2048) (m := 3) (by rw [st]; rfl) rfl (by omega) (by decide), show X.c.mstatus / 2048 &&& 3 = X.c.mstatus / 2048 % 4 from Nat.and_two_pow_sub_one_eq_mod _ 2]
   have := h.mpp
   omega
 . by_cases h3 : X.mode = 3
   . left; omega
   . right
     have := hX.mpv h3
     rw [andE (y := 1) (v := X.c.mstatus / 131072) (m := 1) (by rw [st]; rfl) rfl (by omega) (by decide), Nat.and_one_is_mod]
     rw [Nat.testBit_eq_decide_div_mod_eq] at this
     simp at this
     omega
 . show bits .and .i64 ((X.c.mepc : Nat) : Int) 1 = 0
   rw [andE (y := 1) (v := X.c.mepc) (m := 1) rfl rfl h.mepc (by decide), and_ev hX.mep]; rfl
 . show bits .and .i64 ((X.c.sepc : Nat) : Int) 1 = 0
   rw [andE (y := 1) (v := X.c.sepc) (m := 1) rfl rfl h.sepc (by decide), and_ev hX.sep]; rfl
 . show bits .and .i64 ((X.c.mtvec : Nat) : Int) 2 = 0
   rw [andE (y := 2) (v := X.c.mtvec) (m := 2) rfl rfl h.mtvec (by decide), and_2 hX.mtv]; rfl
 . show bits .and .i64 ((X.c.stvec : Nat) : Int) 2 = 0
   rw [andE (y := 2) (v := X.c.stvec) (m := 2) rfl rfl h.stvec (by decide), and_2 hX.stv]; rfl
 . rw [andE (y := 1) (v := X.pc) (m := 1) fx.pc rfl h.pc (by decide), and_ev hX.pc2]; rfl
 . have := hX.x0
   unfold regU
   rw [List.getD_eq_getElem?_getD] at this
   simp [this]
set_option maxRecDepth 100000 in
theorem k_legal (mb rb fb : Nat) (X : XS) (hX : XInv X) (f : Fc) (fx : FcX X f) (w : World) (hs : Hid (Sl w fb f mb rb X w)) : CK 53 #[.pointer (some ⟨mb, 0, none⟩), .pointer (some ⟨fb, 0, none⟩)] (.bool true) w := by
 have L := leg_of hX fx
 have hO := hX.ok
 have C := hide1 (fun W n (hW : XAt W mb rb X) => k_csrV mb rb X hO n _ rfl W (hide1 hW))
 have CZ := hide1 (fun W (hW : Hid (XAt W mb rb X)) => k_regV mb rb X 0 0 L.x0 W hW)
 have LM := hide1 L.m
 have ⟨a1, a1'⟩ := beqF L.a1
 have ⟨a2, a2'⟩ := beqT L.a2
 have ⟨a3, a3'⟩ := beqT L.a3
 have ⟨a4, a4'⟩ := beqT L.a4
 have ⟨a5, a5'⟩ := beqT L.a5
 have A6 := hide1 L.a6
 have ⟨qss, qss'⟩ := beqT L.ss
 have ⟨qsi, qsi'⟩ := beqT L.si
 have ⟨qsp, qsp'⟩ := beqT L.sp
 have ⟨qme, qme'⟩ := beqT L.me
 have ⟨qse, qse'⟩ := beqT L.se
 have ⟨qmt, qmt'⟩ := beqT L.mt
 have ⟨qst, qst'⟩ := beqT L.st
 have ⟨qpc, qpc'⟩ := beqT L.pc
 have ⟨qcy, qcy'⟩ := beqT L.cy
 have ⟨qir, qir'⟩ := beqT L.ir
 have qmi : (((xcsrE X 769).1 : Int) == 1075056901) = true := by rw [L.mi]; rfl
 clear L hO hX fx
 go_enter func53, ntmps53
 have f0 := hs.out.1.cell 0 _ rfl
 have fl := hs.out.1.lt
 go_upto_region 1 with fail
 go_cut [34] (fun q wx => q = .bool false /\ wx = w)
 case first =>
  rcases beqC f.mode 0 with ⟨g0, g0'⟩ | ⟨g0, g0'⟩ <;> rcases beqC f.mode 1 with ⟨g1, g1'⟩ | ⟨g1, g1'⟩ <;> rcases beqC f.mode 3 with ⟨g3, g3'⟩ | ⟨g3, g3'⟩
  all_goals first | (exfalso; have := LM.out; simp at g0 g1 g3; omega) | skip
  all_goals
   as_aux_lemma =>
    exact zq391
 case rest =>
 obtain ⟨rfl, hwx⟩ := hcut
 rw [hwx]
 clear hwx f0 fl
 have f0 := hs.out.1.cell 0 _ rfl
 have f2 := hs.out.1.cell 2 _ rfl
 have f3 := hs.out.1.cell 3 _ rfl
 have f5 := hs.out.1.cell 5 _ rfl
 have f6 := hs.out.1.cell 6 _ rfl
 have fl := hs.out.1.lt
 go_upto_region 3 with fail
 go_cut [73] (fun q wx => q = .bool false /\ wx = w)
 case first =>
  as_aux_lemma =>
   exact zq391
 case rest =>
 obtain ⟨rfl, hwx⟩ := hcut
 rw [hwx]
 clear hwx
 go_upto_region 5 with fail
 go_cut [87] (fun q wx => q = .bool false /\ wx = w)
 case first =>
  rcases beqC f.mode 3 with ⟨g3, g3'⟩ | ⟨g3, g3'⟩ <;> rcases beqC (bits .and .i64 (f.status / 131072) 1) 1 with ⟨g1, g1'⟩ | ⟨g1, g1'⟩
  all_goals first | (exfalso; have := A6.out; simp at g3 g1; simp [g3, g1] at this; done) | skip
  all_goals
   as_aux_lemma =>
    exact zq391
 case rest =>
 obtain ⟨rfl, hwx⟩ := hcut
 rw [hwx]
 clear hwx f0 f2 f3 f5 f6 fl a1 a1' a2 a2' a3 a3' a4 a4' a5 a5'
 have s := hs
 clear hs
 go_wp2_with fail
 refine (C.out _ _ s.out.2.1).mono ?_
 rintro o w4 ⟨rfl, hk⟩
 replace s := hide1 (s.out.kept hk)
 clear hk
 go_wp2_with fail
 refine (C.out _ _ s.out.2.1).mono ?_
 rintro o w4 ⟨rfl, hk⟩
 replace s := hide1 (s.out.kept hk)
 clear hk
 go_wp2_with fail
 refine (C.out _ _ s.out.2.1).mono ?_
 rintro o w4 ⟨rfl, hk⟩
 replace s := hide1 (s.out.kept hk)
 clear hk
 have f2 := s.out.1.cell 2 _ rfl
 have f3 := s.out.1.cell 3 _ rfl
 have f4 := s.out.1.cell 4 _ rfl
 have f5 := s.out.1.cell 5 _ rfl
 have fl := s.out.1.lt
 go_upto_region 10 with fail
 go_cut [126] (fun q wx => q = .bool false /\ Hid (Sl w fb f mb rb X wx))
 case first =>
  exact zq392
 case rest =>
 obtain ⟨rfl, s1⟩ := hcut
 clear s f2 f3 f4 f5 fl qss qss' qsi qsi' qsp qsp'
 have s := s1
 clear s1
 go_wp2_with fail
 refine (C.out _ _ s.out.2.1).mono ?_
 rintro o w4 ⟨rfl, hk⟩
 replace s := hide1 (s.out.kept hk)
 clear hk
 go_wp2_with fail
 refine (C.out _ _ s.out.2.1).mono ?_
 rintro o w4 ⟨rfl, hk⟩
 replace s := hide1 (s.out.kept hk)
 clear hk
 go_wp2_with fail
 refine (C.out _ _ s.out.2.1).mono ?_
 rintro o w4 ⟨rfl, hk⟩
 replace s := hide1 (s.out.kept hk)
 clear hk
 go_wp2_with fail
 refine (C.out _ _ s.out.2.1).mono ?_
 rintro o w4 ⟨rfl, hk⟩
 replace s := hide1 (s.out.kept hk)
 clear hk
 have f1 := s.out.1.cell 1 _ rfl
 have fl := s.out.1.lt
 go_upto_region 16 with fail
 go_cut [160] (fun q wx => q = .bool false /\ Hid (Sl w fb f mb rb X wx))
 case first =>
  as_aux_lemma =>
   go_wp2_with fail
   all_goals
    go_meet
    case rel => exact ⟨rfl, s⟩
 case rest =>
 obtain ⟨rfl, s1⟩ := hcut
 clear s f1 fl
 have s := s1
 clear s1
 go_wp2_with fail
 refine (C.out _ _ s.out.2.1).mono ?_
 rintro o w4 ⟨rfl, hk⟩
 replace s := hide1 (s.out.kept hk)
 clear hk
 go_wp2_with fail
 refine (C.out _ _ s.out.2.1).mono ?_
 rintro o w4 ⟨rfl, hk⟩
 replace s := hide1 (s.out.kept hk)
 clear hk
 go_wp2_with fail
 refine (C.out _ _ s.out.2.1).mono ?_
 rintro o w4 ⟨rfl, hk⟩
 replace s := hide1 (s.out.kept hk)
 clear hk
 go_wp2_with fail
 refine (CZ.out _ (hide1 s.out.2.1)).mono ?_
 rintro o wz ⟨rfl, hwz⟩
 rw [hwz]
 clear hwz wz CZ
 have f9 := s.out.1.cell 9 _ rfl
 have f11 := s.out.1.cell 11 _ rfl
 have fl := s.out.1.lt
 go_wp2_with fail
 go_ret
 exact ⟨rfl, s.out.2.2⟩
end
theorem holds_at {a n L : Nat} (h : holdsD (a : Nat) (n : Nat) L = true) : 2147483648 <= a /\ a - 2147483648 + n <= L /\ 1 <= n := by
 unfold holdsD at h
 simp at h
 omega
def mineB (C : CsrS) (e : Nat) : Bool := bif bitN e 4 then (decide (C.mode = 0) || (decide (C.mode = 1) && decide (C.sum = 1))) else !decide (C.mode = 0)
theorem all_mine (C : CsrS) (e k : Nat) (h : allD C e k C.mode = true) (hm : C.mode = 0 \/ C.mode = 1) : mineB C e = true /\ (k = 2 -> bitN e 2 = true) := by
 revert h
 unfold allD allB mineB
 rcases hm with h0 | h0 <;> rw [h0] <;> cases bitN e 4 <;> cases bitN e 1 <;> cases bitN e 2 <;> cases bitN e 3 <;> by_cases hs : C.sum = 1 <;> by_cases k0 : k = 0 <;> by_cases k1 : k = 1 <;> simp [hs, k0, k1] <;> omega
def isLf (e : Nat) : Prop := bitN e 0 = true /\ (bitN e 1 = true \/ bitN e 3 = true)
structure EntOf (B : BusS) (P a e : Nat) : Prop where
 pg : a / 4096 = P
 al : a % 4 = 0
 h : holdsD (a : Nat) 4 B.ram.length = true
 e : entE B a = e
structure Clo (T A W F : Nat -> Prop) (C : CsrS) (B : BusS) : Prop where
 root : T (C.satp % 4194304)
 l1 : ∀ a e, EntOf B (C.satp % 4194304) a e -> isLf e -> F a /\ (mineB C e = true -> ∀ k, k < 1024 -> A (e / 1024 + k) /\ (bitN e 2 = true -> W (e / 1024 + k)))
 pt : ∀ a e, EntOf B (C.satp % 4194304) a e -> bitN e 0 = true -> bitN e 1 = false -> bitN e 3 = false -> T (e / 1024) /\ ∀ a' e', EntOf B (e / 1024) a' e' -> isLf e' -> F a' /\ (mineB C e' = true -> A (e' / 1024) /\ (bitN e' 2 = true -> W (e' / 1024)))
def mkA (B : BusS) (a k : Nat) : BusS := if adB (bitN (entE B a) 6) (bitN (entE B a) 7) k = 0 then B else { B with ram := stN B.ram (a - 2147483648) 4 (entE B a + adB (bitN (entE B a) 6) (bitN (entE B a) 7) k) }
theorem mkA_len (B : BusS) (a k : Nat) : (mkA B a k).ram.length = B.ram.length := by
 unfold mkA; split
 . rfl
 . exact stN_length _ _ _ _
theorem ad_bits (e k : Nat) : (∀ i, i < 6 -> bitN (e + adB (bitN e 6) (bitN e 7) k) i = bitN e i) /\ (e + adB (bitN e 6) (bitN e 7) k) / 1024 = e / 1024 /\ (e < 4294967296 -> e + adB (bitN e 6) (bitN e 7) k < 4294967296) := by
 obtain ⟨d, hd⟩ := zn1 (adB (bitN e 6) (bitN e 7) k)
 rw [<- hd]
 have hd' : d = 0 \/ (d = 64 /\ e / 64 % 2 = 0) \/ (d = 128 /\ e / 128 % 2 = 0) \/ (d = 192 /\ e / 64 % 2 = 0 /\ e / 128 % 2 = 0) := by
  rw [hd]
  unfold adB bitN
  by_cases h6 : e / 64 % 2 = 1 <;> by_cases h7 : e / 128 % 2 = 1 <;> by_cases hk : k = 2 <;> simp [h6, h7, hk] <;> omega
 clear hd
 refine ⟨fun i hi => ?_, by omega, by omega⟩
 unfold bitN
 rw [decide_eq_decide]
 have hi' : i = 0 \/ i = 1 \/ i = 2 \/ i = 3 \/ i = 4 \/ i = 5 := by omega
 rcases hi' with rfl | rfl | rfl | rfl | rfl | rfl <;> simp <;> omega
theorem st_get : ∀ (n : Nat) (r : List UInt8) (p v j : Nat), p + n <= r.length -> (stN r p n v)[j]? = if p <= j /\ j < p + n then some (UInt8.ofNat (v / 256 ^ (j - p))) else r[j]?
 | 0, r, p, v, j, h => by rw [if_neg (by omega)]; rfl
 | n + 1, r, p, v, j, h => by
  simp only [stN]
  rw [st_get n _ _ _ _ (by simp; omega)]
  by_cases h1 : p + 1 <= j /\ j < p + 1 + n
  . rw [if_pos h1, if_pos (by omega), Nat.div_div_eq_div_mul, <- Nat.pow_succ', show (j - (p + 1)).succ = j - p by omega]
  . rw [if_neg h1]
    by_cases h2 : j = p
    . subst h2
      rw [List.getElem?_set_self (by omega), if_pos (by omega), Nat.sub_self]; simp
    . rw [List.getElem?_set_ne (by omega), if_neg (by omega)]
theorem ld_of (l : List UInt8) (a b c d : UInt8) (h : l = [a, b, c, d]) : ldN l = a.toNat + 256 * (b.toNat + 256 * (c.toNat + 256 * d.toNat)) := by subst h; simp [ldN]
theorem u8n (v : Nat) : (UInt8.ofNat v).toNat = v % 256 := by simp [UInt8.toNat_ofNat']
theorem rd_st (B : BusS) (p q v : Nat) (hp : p + 4 <= B.ram.length) (hv : v < 4294967296) (hd : p = q \/ p + 4 <= q \/ q + 4 <= p) (hq : q + 4 <= B.ram.length) : rdRam { B with ram := stN B.ram p 4 v } q 4 = if p = q then v else rdRam B q 4 := by
 unfold rdRam
 dsimp only
 by_cases h : p = q
 . subst h
   rw [if_pos rfl]
   have e : ((stN B.ram p 4 v).drop p).take 4 = [UInt8.ofNat v, UInt8.ofNat (v / 256), UInt8.ofNat (v / 65536), UInt8.ofNat (v / 16777216)] := by
    apply List.ext_getElem?
    intro i
    rw [List.getElem?_take]
    by_cases hi : i < 4
    . rw [if_pos hi, List.getElem?_drop, st_get _ _ _ _ _ hp, if_pos (by omega), show p + i - p = i by omega]
      have : i = 0 \/ i = 1 \/ i = 2 \/ i = 3 := by omega
      rcases this with rfl | rfl | rfl | rfl <;> simp
    . exact zq393
   rw [ld_of _ _ _ _ _ e, u8n, u8n, u8n, u8n]
   omega
 . rw [if_neg h]
   congr 1
   apply List.ext_getElem?
   intro i
   rw [List.getElem?_take, List.getElem?_take]
   by_cases hi : i < 4
   . rw [if_pos hi, if_pos hi, List.getElem?_drop, List.getElem?_drop, st_get _ _ _ _ _ hp, if_neg (by omega)]
   . rw [if_neg hi, if_neg hi]
theorem ent_mk (B : BusS) (a k a' : Nat) (h : holdsD (a : Nat) 4 B.ram.length = true) (h' : holdsD (a' : Nat) 4 B.ram.length = true) (ha : a % 4 = 0) (ha' : a' % 4 = 0) : entE (mkA B a k) a' = if a = a' then entE B a + adB (bitN (entE B a) 6) (bitN (entE B a) 7) k else entE B a' := by
 have q1 := holdsD_at h
 have q2 := holdsD_at h'
 unfold mkA
 split
 . next h0 =>
   rw [h0]
   split
   . next e => rw [e, Nat.add_zero]
   . rfl
 . have := rd_st B (a - 2147483648) (a' - 2147483648) (entE B a + adB (bitN (entE B a) 6) (bitN (entE B a) 7) k) q1.2 ((ad_bits _ _).2.2 (entE_lt _ _)) (by omega) q2.2
   unfold entE at this |-
   rw [this]
   by_cases e : a = a'
   . rw [if_pos e, if_pos (by omega)]
   . rw [if_neg e, if_neg (by omega)]
structure Alike (e e' : Nat) : Prop where
 b : ∀ i, i < 6 -> bitN e' i = bitN e i
 p : e' / 1024 = e / 1024
theorem Alike.lf {e e' : Nat} (h : Alike e e') : isLf e' -> isLf e := by
 unfold isLf; rw [h.b 0 (by omega), h.b 1 (by omega), h.b 3 (by omega)]; exact id
theorem Alike.mine {e e' : Nat} (h : Alike e e') (C : CsrS) : mineB C e' = mineB C e := by unfold mineB; rw [h.b 4 (by omega)]
theorem EntOf.back {B : BusS} {P a' e' a k : Nat} (h : EntOf (mkA B a k) P a' e') (ha : holdsD (a : Nat) 4 B.ram.length = true) (hl : a % 4 = 0) : ∃ e, EntOf B P a' e /\ Alike e e' := by
 have h2 := h.h
 rw [mkA_len] at h2
 refine ⟨_, ⟨h.pg, h.al, h2, rfl⟩, ?_⟩
 have e := h.e
 rw [ent_mk B a k a' ha h2 hl h.al] at e
 rw [<- e]
 split
 . next q => rw [<- q]; exact ⟨(ad_bits _ _).1, (ad_bits _ _).2.1⟩
 . exact ⟨fun _ _ => rfl, rfl⟩
theorem Clo.mk' {T A W F : Nat -> Prop} {C : CsrS} {B : BusS} (h : Clo T A W F C B) (a k : Nat) (ha : holdsD (a : Nat) 4 B.ram.length = true) (hl : a % 4 = 0) : Clo T A W F C (mkA B a k) := by
 refine ⟨h.root, fun a' e' q hlf => ?_, fun a' e' q b0 b1 b3 => ?_⟩
 . obtain ⟨e, q', al⟩ := q.back ha hl
   have := h.l1 a' e q' (al.lf hlf)
   rw [al.mine, al.p, al.b 2 (by omega)]
   exact this
 . obtain ⟨e, q', al⟩ := q.back ha hl
   rw [al.b 0 (by omega)] at b0
   rw [al.b 1 (by omega)] at b1
   rw [al.b 3 (by omega)] at b3
   have := h.pt a' e q' b0 b1 b3
   rw [al.p]
   refine ⟨this.1, fun a2 e2 r hlf => ?_⟩
   obtain ⟨e3, r', al2⟩ := r.back ha hl
   have := this.2 a2 e3 r' (al2.lf hlf)
   rw [al2.mine, al2.p, al2.b 2 (by omega)]
   exact this
structure TrOk (T A W F : Nat -> Prop) (C : CsrS) (B : BusS) (va k : Nat) (t : (Nat × Nat) × BusS) : Prop where
 clo : Clo T A W F C t.2
 mkd : t.2 = B \/ ∃ a, F a /\ T (a / 4096) /\ a % 4 = 0 /\ holdsD (a : Nat) 4 B.ram.length = true /\ t.2 = mkA B a k
 pg : t.1.2 = 0 -> A (t.1.1 / 4096) /\ (k = 2 -> W (t.1.1 / 4096)) /\ t.1.1 % 4096 = va % 4096
theorem TrOk.no {T A W F : Nat -> Prop} {C : CsrS} {B : BusS} (h : Clo T A W F C B) (va k f : Nat) (hf : f ≠ 0) : TrOk T A W F C B va k ((0, f), B) := ⟨h, .inl rfl, fun e => absurd e hf⟩
theorem leaf_ok' {T A W F : Nat -> Prop} {C : CsrS} {B : BusS} (h : Clo T A W F C B) (hm : C.mode = 0 \/ C.mode = 1) (a e lvl va k : Nat) (he : entE B a = e) (hh : holdsD (a : Nat) 4 B.ram.length = true) (al : a % 4 = 0) (hF : F a) (hT : T (a / 4096)) (hv : lvl = 0 \/ lvl = 1)
 (hA : mineB C e = true -> ∀ j, j < (if lvl = 1 then 1024 else 1) -> A (e / 1024 + j) /\ (bitN e 2 = true -> W (e / 1024 + j))) : TrOk T A W F C B va k (leafD B C e a lvl va k C.mode) := by
 unfold leafD
 split
 . exact .no h _ _ 1 (by omega)
 split
 . exact .no h _ _ 1 (by omega)
 . next h1 h2 =>
   have hm2 := all_mine C e k (by simpa using h1) hm
   refine ⟨?_, .inr ⟨a, hF, hT, al, hh, ?_⟩, fun _ => ?_⟩
   . have := h.mk' a k hh al
     unfold mkA at this
     rw [he] at this
     exact this
   . unfold mkA
     rw [he]
   . dsimp only
     have q : (e / 1024 * 4096 + va % spanN lvl) / 4096 = e / 1024 + va % spanN lvl / 4096 /\ (e / 1024 * 4096 + va % spanN lvl) % 4096 = va % 4096 /\ va % spanN lvl / 4096 < (if lvl = 1 then 1024 else 1) := by
      rcases hv with rfl | rfl
      . simp [spanN]; omega
      . simp [spanN]; omega
     rw [q.1, q.2.1]
     have := hA hm2.1 _ q.2.2
     exact ⟨this.1, fun k2 => this.2 (hm2.2 k2), rfl⟩
theorem ent_pg (P va lvl : Nat) : entA (P * 4096) va lvl / 4096 = P /\ entA (P * 4096) va lvl % 4 = 0 := by
 unfold entA
 obtain ⟨x, hx⟩ := zn1 (va / spanN lvl % 1024)
 have : x < 1024 := by rw [hx]; omega
 rw [<- hx]
 omega
theorem walk_ok' {T A W F : Nat -> Prop} {C : CsrS} {B : BusS} (h : Clo T A W F C B) (hm : C.mode = 0 \/ C.mode = 1) (va k : Nat) : TrOk T A W F C B va k (walk1 B C (C.satp % 4194304 * 4096) va k C.mode) := by
 have p1 := ent_pg (C.satp % 4194304) va 1
 have n1 : TrOk T A W F C B va k ((0, 1), B) := .no h _ _ 1 (by omega)
 have n2 : TrOk T A W F C B va k ((0, 2), B) := .no h _ _ 2 (by omega)
 unfold walk1
 split
 . exact n2
 next h1 =>
 have E1 : EntOf B (C.satp % 4194304) (entA (C.satp % 4194304 * 4096) va 1) (entE B (entA (C.satp % 4194304 * 4096) va 1)) := ⟨p1.1, p1.2, by simpa using h1, rfl⟩
 obtain ⟨a, ha⟩ := zn1 (entA (C.satp % 4194304 * 4096) va 1)
 rw [<- ha] at E1 p1 |-
 obtain ⟨e, he⟩ := zn1 (entE B a)
 rw [<- he] at E1 |-
 split
 . exact n1
 next h2 =>
 have b0 : bitN e 0 = true := by
  cases hb : bitN e 0
  . exact absurd (.inl hb) h2
  . rfl
 split
 . next h3 =>
   split
   . exact n1
   have PT := h.pt a e E1 b0 h3.1 h3.2
   have p2 := ent_pg (e / 1024) va 0
   unfold walk0
   split
   . exact n2
   next g1 =>
   have E2 : EntOf B (e / 1024) (entA (e / 1024 * 4096) va 0) (entE B (entA (e / 1024 * 4096) va 0)) := ⟨p2.1, p2.2, by simpa using g1, rfl⟩
   obtain ⟨a', ha'⟩ : ∃ a', a' = entA (e / 1024 * 4096) va 0 := ⟨_, rfl⟩
   rw [<- ha'] at E2 p2 |-
   obtain ⟨e', he'⟩ : ∃ e', e' = entE B a' := ⟨_, rfl⟩
   rw [<- he'] at E2 |-
   split
   . exact n1
   next g2 =>
   split
   . exact n1
   next g3 =>
   have lf : isLf e' := by
    unfold isLf
    cases q0 : bitN e' 0 <;> cases q1 : bitN e' 1 <;> cases q3 : bitN e' 3 <;> simp [q0, q1, q3] at g2 g3 |-
   have := PT.2 a' e' E2 lf
   refine leaf_ok' h hm a' e' 0 va k he'.symm E2.h E2.al this.1 (by rw [E2.pg]; exact PT.1) (.inl rfl) (fun q j hj => ?_)
   have j0 : j = 0 := by simpa using hj
   subst j0
   exact this.2 q
 . next h3 =>
   have lf : isLf e := by
    unfold isLf
    refine ⟨b0, ?_⟩
    cases q1 : bitN e 1 <;> cases q3 : bitN e 3 <;> simp [q1, q3] at h3 |-
   have := h.l1 a e E1 lf
   exact leaf_ok' h hm a e 1 va k he.symm E1.h E1.al this.1 (by rw [E1.pg]; exact h.root) (.inr rfl) (fun q j hj => this.2 q j (by simpa using hj))
structure Pgd (C : CsrS) : Prop where
 m : C.mode = 0 \/ C.mode = 1
 v : C.mprv = 0
 s : 2147483648 <= C.satp
theorem Pgd.pg {C : CsrS} (h : Pgd C) (k : Nat) : pgD C k = true /\ actsD C k = C.mode := by
 have ha : actsD C k = C.mode := by
  unfold actsD
  have := h.v
  split
  . rfl
  . rw [if_neg (by simp; omega)]
 unfold pgD
 rw [ha]
 have h1 : C.mode < 3 := by have := h.m; omega
 have h2 := h.s
 exact ⟨by simp [h1, h2], rfl⟩
theorem tr_ok' {T A W F : Nat -> Prop} {C : CsrS} {B : BusS} (h : Clo T A W F C B) (hm : Pgd C) (va k : Nat) : TrOk T A W F C B va k (trD B C va k) := by
 unfold trD
 rw [if_pos (hm.pg k).1, (hm.pg k).2]
 exact walk_ok' h hm.m va k
theorem or_z (h : Nat) : h ||| (0 : Int).toNat = h := Nat.or_zero h
theorem step_is {X : XS} (h : XInv X) :
 ((stepX X).1 = (3, 0) /\ askD X = 0 /\ (stepX X).2 = cntX X false X.c.minh) \/
 (∃ c : Nat, intD X = c /\ (stepX X).1 = (2, (c : Int)) /\ (stepX X).2 = cntX (tiX (wakX X) c) false X.c.minh) \/
 (intD X = -1 /\ (insX (wakX X)).1.2.1 = -1 /\ (stepX X).1 = (0, 0) /\ (stepX X).2 = cntX (insX (wakX X)).2 true (X.c.minh ||| (cwrD (insX (wakX X)).1.1).toNat)) \/
 (intD X = -1 /\ ∃ c : Nat, c < 16 /\ (insX (wakX X)).1.2.1 = c /\ (stepX X).1 = (1, (c : Int)) /\ (stepX X).2 = cntX (teX (insX (wakX X)).2 c (insX (wakX X)).1.2.2) false X.c.minh) := by
 have hi := ins_inv (wak_inv h)
 have e : intD (wakX X) = intD X := rfl
 have hm := int_in X
 unfold stepX actX
 rw [e]
 by_cases h1 : (X.waits && decide (askD X = 0)) = true
 . rw [if_pos h1]
   left
   simp at h1
   exact ⟨rfl, h1.2, by dsimp only; rw [or_z]; rfl⟩
 rw [if_neg h1]
 by_cases h2 : intD X = -1
 . rw [if_pos h2]
   right; right
   unfold actE
   by_cases h3 : (insX (wakX X)).1.2.1 = -1
   . left
     rw [if_pos h3]
     exact ⟨h2, h3, rfl, rfl⟩
   . right
     rw [if_neg h3]
     refine ⟨h2, (insX (wakX X)).1.2.1.toNat, by omega, by omega, ?_, ?_⟩
     . dsimp only; congr 1; omega
     . dsimp only; rw [or_z]; rfl
 . rw [if_neg h2]
   right; left
   refine ⟨(intD X).toNat, by omega, ?_, ?_⟩
   . dsimp only; congr 1; omega
   . dsimp only; rw [or_z]; rfl
theorem cro_exc (X : XS) (i : NI) (v : Nat) (h : (croX X i v).1.1 ≠ -1) : ∃ B, (croX X i v).2 = X.withB B := by
 revert h
 unfold croX
 split
 . exact zq394
 split
 . exact zq394
 split
 . unfold ldX ldF
   exact zq395
 split
 . unfold stX stF
   exact zq395
 split
 . unfold atX
   split
   . unfold atF
     exact zq395
   . exact fun _ => ⟨X.b, rfl⟩
 split
 . exact fun _ => ⟨X.b, rfl⟩
 split
 . exact fun _ => ⟨X.b, rfl⟩
 split
 . exact zq394
 split
 . exact zq394
 exact fun _ => ⟨X.b, rfl⟩
theorem ins_exc (X : XS) (h : (insX X).1.2.1 ≠ -1) : ∃ B, (insX X).2 = X.withB B := by
 revert h
 unfold insX
 split
 . split
   . unfold insR
     split
     . next h1 => exact fun h => absurd h1 h
     . next h1 =>
       intro _
       obtain ⟨B, e⟩ := cro_exc _ _ _ h1
       exact ⟨B, e⟩
   . exact zq396
 . exact zq396
theorem ins_ret (X : XS) (h : (insX X).1.2.1 = -1) : (fetchD X.b (xC X) X.pc).1.f = 0 /\ (decodeD (fetchD X.b (xC X) X.pc).1.w).2 = 0 /\
 (croX (X.withB (fetchD X.b (xC X) X.pc).2) (niOf (decodeD (fetchD X.b (xC X) X.pc).1.w).1) (fetchD X.b (xC X) X.pc).1.w).1.1 = -1 /\
 insX X = ((niOf (decodeD (fetchD X.b (xC X) X.pc).1.w).1, (croX (X.withB (fetchD X.b (xC X) X.pc).2) (niOf (decodeD (fetchD X.b (xC X) X.pc).1.w).1) (fetchD X.b (xC X) X.pc).1.w).1), { (croX (X.withB (fetchD X.b (xC X) X.pc).2) (niOf (decodeD (fetchD X.b (xC X) X.pc).1.w).1) (fetchD X.b (xC X) X.pc).1.w).2 with pc := npcD (X.withB (fetchD X.b (xC X) X.pc).2) (niOf (decodeD (fetchD X.b (xC X) X.pc).1.w).1) }) := by
 revert h
 unfold insX
 split
 . next h1 =>
   split
   . next h2 =>
     unfold insR
     split
     . next h3 => exact fun _ => ⟨h1, h2, h3, rfl⟩
     . next h3 => exact fun h => absurd h h3
   . exact fun h => absurd h zq525
 . have := fau_in (fetchD X.b (xC X) X.pc).1.f 0
   exact fun h => absurd h zq539
theorem ccr_mode (X : XS) (i : NI) : (ccrX X i).mode = X.mode := by
 have hs : ∀ d v, (setXR X d v).mode = X.mode := by intro d v; unfold setXR; split <;> rfl
 have ite : ∀ {c : Prop} [Decidable c] {Y Z : XS} {m : Nat}, Y.mode = m -> Z.mode = m -> (if c then Y else Z).mode = m := by
  intro c _ Y Z m h1 h2; split <;> assumption
 exact zq397
theorem cro_mode (X : XS) (i : NI) (v : Nat) (h1 : i.op ≠ 67) (h2 : i.op ≠ 68) : (croX X i v).2.mode = X.mode := by
 have hs : ∀ (Y : XS) d v, (setXR Y d v).mode = Y.mode := by intro Y d v; unfold setXR; split <;> rfl
 unfold croX
 split
 . exact hs _ _ _
 split
 . rfl
 split
 . unfold ldX ldF; split
   . exact hs _ _ _
   . rfl
 split
 . unfold stX stF; split <;> rfl
 split
 . unfold atX atF
   split
   . split
     . unfold atG lrX scX amoX
       dsimp only
       split
       . exact hs _ _ _
       . split
         . show (setXR _ _ _).mode = _
           rw [hs]
           cases scB (X.withB (wordAtD X.b (xC X) (X.x.getD i.rs1 0) (kD i.op)).2) (wordAtD X.b (xC X) (X.x.getD i.rs1 0) (kD i.op)).1.1 <;> rfl
         . exact hs _ _ _
     . rfl
   . rfl
 split
 . rfl
 split
 . rfl
 split
 . exact ccr_mode X i
 split
 . unfold prvX
   rw [if_neg h1, if_neg h2]
   split <;> rfl
 . rfl
theorem cro_ops (X : XS) (i : NI) (v : Nat) (h : (croX X i v).1.1 = -1) : i.op ≠ 0 /\ i.op ≠ 40 /\ i.op ≠ 41 /\ (i.op = 67 \/ i.op = 68 -> mdoB X i.op = true /\ (croX X i v).2 = prvX X i.op) := by
 have key : ∀ op : Int, op = i.op -> op = 0 \/ op = 40 \/ op = 41 \/ op = 67 \/ op = 68 -> xresD op = false /\ ¬ ((5 <= op /\ op <= 10) \/ op = 38 \/ op = 39) /\ ¬ (11 <= op /\ op <= 15) /\ ¬ (16 <= op /\ op <= 18) /\ ¬ (50 <= op /\ op <= 60) /\ ¬ (61 <= op /\ op <= 66) := by
  intro op _ ho
  refine ⟨?_, by omega, by omega, by omega, by omega, by omega⟩
  unfold xresD
  simp
  omega
 by_cases ho : i.op = 0 \/ i.op = 40 \/ i.op = 41 \/ i.op = 67 \/ i.op = 68
 . obtain ⟨k1, k2, k3, k4, k5, k6⟩ := key _ rfl ho
   unfold croX at h |-
   rw [if_neg (by rw [k1]; decide), if_neg k2, if_neg k3, if_neg k4, if_neg k5] at h |-
   rw [if_neg (fun q : (61 <= i.op /\ i.op <= 66) /\ mayB X i = true => k6 q.1)] at h |-
   by_cases h40 : i.op = 40
   . rw [if_pos h40] at h; exact absurd h zq539
   by_cases h41 : i.op = 41
   . rw [if_neg h40, if_pos h41] at h; exact absurd h zq525
   rw [if_neg h40, if_neg h41] at h |-
   by_cases hd : (67 <= i.op /\ i.op <= 70) /\ mdoB X i.op = true
   . rw [if_pos hd]
     exact ⟨by omega, h40, h41, fun _ => ⟨hd.2, rfl⟩⟩
   . rw [if_neg hd] at h; exact absurd h zq525
 . exact ⟨by omega, by omega, by omega, fun q => absurd q (by omega)⟩
theorem xres_no {op : Int} (h : ¬ xresD op = true) : ¬ ((1 <= op /\ op <= 4) \/ (19 <= op /\ op <= 37) \/ (42 <= op /\ op <= 49)) := by unfold xresD at h; simpa using h
theorem cro_causes (X : XS) (i : NI) (v : Nat) (c : Nat) (h : (croX X i v).1.1 = c) : (c = 2 /\ (i.op >= 61 \/ i.op < 1 \/ 70 < i.op)) \/ (c = 3 /\ i.op = 41) \/ (c = 8 + X.mode /\ i.op = 40) \/ (c = 4 /\ i.op = 50) \/ (c = 6 /\ 51 <= i.op /\ i.op <= 60) \/ ((c = 5 \/ c = 13) /\ ((11 <= i.op /\ i.op <= 15) \/ i.op = 50)) \/ ((c = 7 \/ c = 15) /\ ((16 <= i.op /\ i.op <= 18) \/ (51 <= i.op /\ i.op <= 60))) := by
 revert h
 unfold croX
 split
 . exact zq398
 next g1 =>
 split
 . exact zq398
 next g2 =>
 split
 . next g =>
   unfold ldX ldF xfauD
   split
   . exact zq398
   . dsimp only
     intro h
     have : c = 5 \/ c = 13 := by
      rw [if_neg (by decide), if_pos rfl] at h
      split at h <;> omega
     omega
 next g3 =>
 split
 . next g =>
   unfold stX stF xfauD
   split
   . exact zq398
   . dsimp only
     intro h
     exact zq399
 next g4 =>
 split
 . next g =>
   unfold atX
   split
   . unfold atF xfauD
     split
     . exact zq398
     . dsimp only
       unfold kD
       intro h
       by_cases h50 : i.op = 50
       . simp only [if_pos h50] at h
         have : c = 5 \/ c = 13 := by
          rw [if_neg (by decide), if_pos (by decide)] at h
          split at h <;> omega
         omega
       . simp only [if_neg h50] at h
         exact zq399
   . unfold xalgD kD
     dsimp only
     intro h
     by_cases h50 : i.op = 50
     . simp only [if_pos h50] at h
       rw [if_pos (by decide)] at h
       omega
     . simp only [if_neg h50] at h
       rw [if_neg (by decide)] at h
       omega
 next g5 =>
 split
 . intro h; dsimp only at h; omega
 next g6 =>
 split
 . intro h; dsimp only at h; omega
 next g7 =>
 split
 . exact zq398
 split
 . exact zq398
 . intro h
   have h2 : (2 : Int) = c := h
   have g1' := xres_no g1
   left
   refine ⟨by omega, ?_⟩
   clear h h2
   omega
section
attribute [local go_sem ↓] Go.wp_at_zero Go.wp_at_succ
theorem w64 (a : Nat) (h : a < 4294967296) : wrap64 (a : Int) = (a : Int) := by
 unfold wrap64
 omega
theorem or_hi' (a u k : Nat) (h : a < 2 ^ k) (hu : u * 2 ^ k + a < 9223372036854775808) : bits .or .i64 (a : Int) ((u * 2 ^ k : Nat) : Int) = ((a + u * 2 ^ k : Nat) : Int) := by
 rw [b_or _ _ (by omega) (by omega), Nat.or_comm, Nat.mul_comm, <- Nat.two_pow_add_eq_or_of_lt h, Nat.add_comm]
def leW' (a b c d : Nat) : Nat := a + 256 * (b + 256 * (c + 256 * d))
theorem le_exact' (a b c d : Nat) (ha : a < 256) (hb : b < 256) (hc : c < 256) (hd : d < 256) : bits .or .i64 (bits .or .i64 (bits .or .i64 (wrap64 a) (wrap64 (wrap64 b * 256))) (wrap64 (wrap64 c * 65536))) (wrap64 (wrap64 d * 16777216)) = (leW' a b c d : Int) := by
 have w1 : wrap64 (wrap64 (b : Int) * 256) = ((b * 2 ^ 8 : Nat) : Int) := by rw [w64 b (by omega), <- w64 (b * 2 ^ 8) (by omega)]; simp
 have w2 : wrap64 (wrap64 (c : Int) * 65536) = ((c * 2 ^ 16 : Nat) : Int) := by rw [w64 c (by omega), <- w64 (c * 2 ^ 16) (by omega)]; simp
 have w3 : wrap64 (wrap64 (d : Int) * 16777216) = ((d * 2 ^ 24 : Nat) : Int) := by rw [w64 d (by omega), <- w64 (d * 2 ^ 24) (by omega)]; simp
 have e1 := or_hi' a b 8 (by omega) (by omega)
 have e2 := or_hi' (a + b * 2 ^ 8) c 16 (by omega) (by omega)
 have e3 := or_hi' (a + b * 2 ^ 8 + c * 2 ^ 16) d 24 (by omega) (by omega)
 rw [w1, w2, w3, w64 a (by omega), e1, e2, e3]
 unfold leW'; omega
def ldS (s : ByteArray) (n : Nat) : Nat := ldN ((s.data.toList.drop n).take 4)
theorem ldS_eq (s : ByteArray) (n : Nat) (h : n + 4 <= s.size) : ldS s n = leW' (s[n]'(by omega)).toNat (s[n + 1]'(by omega)).toNat (s[n + 2]'(by omega)).toNat (s[n + 3]'(by omega)).toNat := by
 have hl : s.data.toList.length = s.size := by simp
 unfold ldS
 rw [show (s.data.toList.drop n).take 4 = [s[n]'(by omega), s[n + 1]'(by omega), s[n + 2]'(by omega), s[n + 3]'(by omega)] from ?_]
 . unfold leW'; simp [ldN]
 . apply List.ext_getElem?
   intro i
   rw [List.getElem?_take]
   by_cases hi : i < 4
   . rw [if_pos hi, List.getElem?_drop, List.getElem?_eq_getElem (by omega)]
     have : i = 0 \/ i = 1 \/ i = 2 \/ i = 3 := by omega
     rcases this with rfl | rfl | rfl | rfl <;> rfl
   . exact zq393
theorem ldS_lt (s : ByteArray) (n : Nat) : ldS s n < 4294967296 := by
 unfold ldS
 have h := ldN_lt ((s.data.toList.drop n).take 4)
 have h2 : 256 ^ ((s.data.toList.drop n).take 4).length <= 256 ^ 4 := Nat.pow_le_pow_right (by omega) (by simp; omega)
 omega
set_option maxRecDepth 100000 in
theorem k_leB (s : ByteArray) (n : Nat) (h : n + 4 <= s.size) (hs : s.size <= 100000) (v : Nat) (hv : ldS s n = v) (w : World) : CK 145 #[.string s, .int .i64 n] (.int .i64 v) w := by
 have EX : Hid (bits .or .i64 (bits .or .i64 (bits .or .i64 (wrap64 ((s[n]'(by omega)).toNat : Int)) (wrap64 (wrap64 ((s[n + 1]'(by omega)).toNat : Int) * 256))) (wrap64 (wrap64 ((s[n + 2]'(by omega)).toNat : Int) * 65536))) (wrap64 (wrap64 ((s[n + 3]'(by omega)).toNat : Int) * 16777216)) = (v : Int)) := hide1 (by rw [<- hv, ldS_eq s n h]; exact le_exact' _ _ _ _ (UInt8.toNat_lt _) (UInt8.toNat_lt _) (UInt8.toNat_lt _) (UInt8.toNat_lt _))
 clear hv
 have i0 : n < s.size := by omega
 have i1 : n + 1 < s.size := by omega
 have i2 : n + 2 < s.size := by omega
 have i3 : n + 3 < s.size := by omega
 have w1 : IntKind.i64.wrap ((n : Int) + 1) = (n : Int) + 1 := zq115
 have w2 : IntKind.i64.wrap ((n : Int) + 2) = (n : Int) + 2 := zq115
 have w3 : IntKind.i64.wrap ((n : Int) + 3) = (n : Int) + 3 := zq115
 have j0 : (0 : Int) <= (n : Int) /\ (n : Int) < (s.size : Int) := by omega
 have j1 : (0 : Int) <= (n : Int) + 1 /\ (n : Int) + 1 < (s.size : Int) := by omega
 have j2 : (0 : Int) <= (n : Int) + 2 /\ (n : Int) + 2 < (s.size : Int) := by omega
 have j3 : (0 : Int) <= (n : Int) + 3 /\ (n : Int) + 3 < (s.size : Int) := by omega
 go_enter func145, ntmps145
 go_upto_region 1 with fail
 go_region
 all_goals
  go_wp2_with fail
  go_ret
  refine ⟨?_, (Kept.refl _ _).drew⟩
  exact congrArg (fun x => Ending.returned (Value.int .i64 x)) EX.out
end
theorem size_ok (w : Nat) (h : (w % 4 ≠ 3 /\ w < 65536) \/ (w % 4 = 3 /\ w < 4294967296)) : (decodeD (w : Int)).2 = 0 := by
 have hs : ¬ sizeOf (w : Int) = 0 := by
  unfold sizeOf
  rcases h with h | h
  . rw [if_neg (by omega), if_neg (by omega), if_pos (by omega)]; decide
  . rw [if_neg (by omega), if_pos (by omega)]; decide
 unfold decodeD
 rw [if_neg hs]
 cases scan (rowMeans (sizeOf (w : Int)) (w : Int).toNat) 1 (rowCount (sizeOf (w : Int))).toNat <;> rfl
def AtF (X : XS) (I : Ins) : Prop := (fetchD X.b (xC X) X.pc).1.f = 0 /\ (fetchD X.b (xC X) X.pc).2 = X.b /\ decodeD (fetchD X.b (xC X) X.pc).1.w = (I, 0)
theorem half_plain {X : XS} (hp : pgD (xC X) 0 = false) (va n : Nat) (hn : va = 2147483648 + n) (h2 : n + 2 <= X.b.ram.length) : halfD X.b (xC X) va = ((rdRam X.b n 2, 0), X.b) := by
 unfold halfD trD
 rw [if_neg (by rw [hp]; decide)]
 unfold halfP
 dsimp only
 rw [if_pos rfl, if_pos (by unfold holdsD; simp; omega), show va - 2147483648 = n by omega]
theorem rd_2 (B : BusS) (n : Nat) (h : n + 2 <= B.ram.length) : rdRam B n 2 = (B.ram.getD n 0).toNat + 256 * (B.ram.getD (n + 1) 0).toNat := by
 unfold rdRam
 rw [show (B.ram.drop n).take 2 = [B.ram.getD n 0, B.ram.getD (n + 1) 0] from ?_]
 . simp [ldN]
 . apply List.ext_getElem?
   intro i
   rw [List.getElem?_take]
   by_cases hi : i < 2
   . rw [if_pos hi, List.getElem?_drop, List.getElem?_eq_getElem (by omega)]
     have : i = 0 \/ i = 1 := by omega
     rcases this with rfl | rfl
     . simp [List.getD_eq_getElem?_getD, List.getElem?_eq_getElem (show n < B.ram.length by omega)]
     . simp [List.getD_eq_getElem?_getD, List.getElem?_eq_getElem (show n + 1 < B.ram.length by omega)]
   . exact zq393
theorem at_2 {X : XS} (hp : pgD (xC X) 0 = false) (n x : Nat) (hn : X.pc = 2147483648 + n) (h2 : n + 2 <= X.b.ram.length) (hx : rdRam X.b n 2 = x) (h3 : x % 4 ≠ 3) : AtF X (decodeD (x : Int)).1 := by
 have e := half_plain hp X.pc n hn h2
 have hl := rdRam_lt X.b n 2
 unfold AtF fetchD
 rw [e]
 dsimp only
 rw [if_pos rfl, hx, if_neg h3]
 rw [hx] at hl
 exact ⟨rfl, rfl, Prod.ext rfl (size_ok x (.inl ⟨h3, by omega⟩))⟩
theorem at_4 {X : XS} (hp : pgD (xC X) 0 = false) (n x y : Nat) (hn : X.pc = 2147483648 + n) (h4 : n + 4 <= X.b.ram.length) (hr : X.b.ram.length <= 65536) (hx : rdRam X.b n 2 = x) (h3 : x % 4 = 3) (hy : x + rdRam X.b (n + 2) 2 * 65536 = y) : AtF X (decodeD (y : Int)).1 := by
 have e := half_plain hp X.pc n hn (by omega)
 have e2 := half_plain hp ((X.pc + 2) % 4294967296) (n + 2) (by omega) (by omega)
 have hl := rdRam_lt X.b n 2
 have hl2 := rdRam_lt X.b (n + 2) 2
 unfold AtF fetchD
 rw [e]
 dsimp only
 rw [if_pos rfl, hx, if_pos h3, e2]
 dsimp only
 rw [if_pos rfl, hy]
 rw [hx] at hl
 exact ⟨rfl, rfl, Prod.ext rfl (size_ok y (.inr ⟨by omega, by omega⟩))⟩
theorem pk_get (r : List UInt8) (n : Nat) (h : n < (pkB r 0 r.length).size) : (pkB r 0 r.length)[n] = r.getD n 0 := by
 have e : (pkB r 0 r.length).data.toList = r := by
  unfold pkB
  rw [List.drop_zero, List.take_length]
  unfold strOfNums
  simp [Function.comp_def]
 have h2 : n < r.length := by rw [pkB_size _ _ _ (by omega)] at h; exact h
 have : (pkB r 0 r.length)[n] = (pkB r 0 r.length).data.toList[n]'(by rw [e]; exact h2) := rfl
 rw [this, List.getD_eq_getElem?_getD, List.getElem?_eq_getElem h2]
 simp [e]
theorem or_2 (a b : Nat) (ha : a < 256) (hb : b < 256) : bits .or .i64 (wrap64 (a : Int)) (wrap64 (wrap64 (b : Int) * 256)) = ((a + 256 * b : Nat) : Int) := by
 have := le_exact' a b 0 0 ha hb (by omega) (by omega)
 have w1 : wrap64 (wrap64 (b : Int) * 256) = ((b * 2 ^ 8 : Nat) : Int) := by rw [w64 b (by omega), <- w64 (b * 2 ^ 8) (by omega)]; simp
 rw [w1, w64 a (by omega), or_hi' a b 8 (by omega) (by omega)]
 congr 1; omega
theorem or_4 (x c d : Nat) (hx : x < 65536) (hc : c < 256) (hd : d < 256) : bits .or .i64 (bits .or .i64 (x : Int) (wrap64 (wrap64 (c : Int) * 65536))) (wrap64 (wrap64 (d : Int) * 16777216)) = ((x + (c + 256 * d) * 65536 : Nat) : Int) := by
 have w2 : wrap64 (wrap64 (c : Int) * 65536) = ((c * 2 ^ 16 : Nat) : Int) := by rw [w64 c (by omega), <- w64 (c * 2 ^ 16) (by omega)]; simp
 have w3 : wrap64 (wrap64 (d : Int) * 16777216) = ((d * 2 ^ 24 : Nat) : Int) := by rw [w64 d (by omega), <- w64 (d * 2 ^ 24) (by omega)]; simp
 rw [w2, w3, or_hi' x c 16 (by omega) (by omega), or_hi' (x + c * 2 ^ 16) d 24 (by omega) (by omega)]
 congr 1; omega
theorem and_3 (x : Nat) (hx : x < 65536) : bits .and .i64 (x : Int) 3 = ((x % 4 : Nat) : Int) := by
 have h1 : bits .and .i64 (x : Int) 3 = ((x &&& 3 : Nat) : Int) := b_and x 3 (by omega) (by decide)
 rw [h1, show x &&& 3 = x % 4 from Nat.and_two_pow_sub_one_eq_mod x 2]
def muB (b11 b3 b7 b9 b1 b5 : Bool) : Nat := bif b11 then 11 else bif b3 then 3 else bif b7 then 7 else bif b9 then 9 else bif b1 then 1 else bif b5 then 5 else 99
def irB (a1 a3 a5 a7 a9 a11 d1 d5 d9 n3 m0 m1 e3 e1 : Bool) : Nat :=
 bif (a11 || a3 || a7 || (a9 && !d9) || (a1 && !d1) || (a5 && !d5)) && (n3 || e3) then muB a11 a3 a7 (a9 && !d9) (a1 && !d1) (a5 && !d5)
 else bif ((a9 && d9) || (a1 && d1) || (a5 && d5)) && (m0 || (m1 && e1)) then muB false false false (a9 && d9) (a1 && d1) (a5 && d5) else 99
def bA (a1 a3 a5 a7 a9 a11 : Bool) (i : Nat) : Bool := bif i == 1 then a1 else bif i == 3 then a3 else bif i == 5 then a5 else bif i == 7 then a7 else bif i == 9 then a9 else bif i == 11 then a11 else false
def tkB (a d n3 m0 m1 e3 e1 : Bool) : Bool := a && (bif d then m0 || (m1 && e1) else n3 || e3)
def rkB (i : Nat) (d : Bool) : Nat := (bif i == 11 then 0 else bif i == 3 then 1 else bif i == 7 then 2 else bif i == 9 then 3 else bif i == 1 then 4 else bif i == 5 then 5 else 99) + (bif d then 6 else 0)
def chB (a1 a3 a5 a7 a9 a11 d1 d5 d9 n3 m0 m1 e3 e1 : Bool) (i : Nat) : Bool :=
 let I := irB a1 a3 a5 a7 a9 a11 d1 d5 d9 n3 m0 m1 e3 e1
 (!tkB (bA a1 a3 a5 a7 a9 a11 i) (bA d1 false d5 false d9 false i) n3 m0 m1 e3 e1 || (!(I == 99) && Nat.ble (rkB I (bA d1 false d5 false d9 false I)) (rkB i (bA d1 false d5 false d9 false i))))
 && ((I == 99) || tkB (bA a1 a3 a5 a7 a9 a11 I) (bA d1 false d5 false d9 false I) n3 m0 m1 e3 e1)
set_option maxRecDepth 100000 in
theorem ch_all : ∀ a1 a3 a5 a7 a9 a11 d1 d5 d9 n3 m0 m1 e3 e1 : Bool, (chB a1 a3 a5 a7 a9 a11 d1 d5 d9 n3 m0 m1 e3 e1 1 && chB a1 a3 a5 a7 a9 a11 d1 d5 d9 n3 m0 m1 e3 e1 3 && chB a1 a3 a5 a7 a9 a11 d1 d5 d9 n3 m0 m1 e3 e1 5 && chB a1 a3 a5 a7 a9 a11 d1 d5 d9 n3 m0 m1 e3 e1 7 && chB a1 a3 a5 a7 a9 a11 d1 d5 d9 n3 m0 m1 e3 e1 9 && chB a1 a3 a5 a7 a9 a11 d1 d5 d9 n3 m0 m1 e3 e1 11) = true := by decide +kernel
theorem bitN_tb (v i : Nat) : bitN v i = v.testBit i := by unfold bitN; rw [Nat.testBit_eq_decide_div_mod_eq]
def irX (X : XS) : Nat := irB (bitN (askD X) 1) (bitN (askD X) 3) (bitN (askD X) 5) (bitN (askD X) 7) (bitN (askD X) 9) (bitN (askD X) 11) (bitN X.c.mideleg 1) (bitN X.c.mideleg 5) (bitN X.c.mideleg 9) (!decide (X.mode = 3)) (decide (X.mode = 0)) (decide (X.mode = 1)) (bitN X.c.mstatus 3) (bitN X.c.mstatus 1)
def chX (X : XS) (i : Nat) : Bool := chB (bitN (askD X) 1) (bitN (askD X) 3) (bitN (askD X) 5) (bitN (askD X) 7) (bitN (askD X) 9) (bitN (askD X) 11) (bitN X.c.mideleg 1) (bitN X.c.mideleg 5) (bitN X.c.mideleg 9) (!decide (X.mode = 3)) (decide (X.mode = 0)) (decide (X.mode = 1)) (bitN X.c.mstatus 3) (bitN X.c.mstatus 1) i
def akX (X : XS) (i : Nat) : Bool := bA (bitN (askD X) 1) (bitN (askD X) 3) (bitN (askD X) 5) (bitN (askD X) 7) (bitN (askD X) 9) (bitN (askD X) 11) i
def dlX (X : XS) (i : Nat) : Bool := bA (bitN X.c.mideleg 1) false (bitN X.c.mideleg 5) false (bitN X.c.mideleg 9) false i
def tkX (X : XS) (a d : Bool) : Bool := tkB a d (!decide (X.mode = 3)) (decide (X.mode = 0)) (decide (X.mode = 1)) (bitN X.c.mstatus 3) (bitN X.c.mstatus 1)
def takB (X : XS) (i : Nat) : Bool := tkX X (bitN (askD X) i) (bitN X.c.mideleg i)
def rankD (X : XS) (i : Nat) : Nat := rkB i (bitN X.c.mideleg i)
theorem sub_bA {v : Nat} (h : v &&& 2730 = v) (i : Nat) (hi : i < 12) : bitN v i = bA (bitN v 1) (bitN v 3) (bitN v 5) (bitN v 7) (bitN v 9) (bitN v 11) i := by
 have e := sub_tb h i
 rw [<- bitN_tb] at e
 have hi' : i = 0 \/ i = 1 \/ i = 2 \/ i = 3 \/ i = 4 \/ i = 5 \/ i = 6 \/ i = 7 \/ i = 8 \/ i = 9 \/ i = 10 \/ i = 11 := by omega
 rcases hi' with rfl | rfl | rfl | rfl | rfl | rfl | rfl | rfl | rfl | rfl | rfl | rfl
 all_goals first | rfl | (rw [e, show Nat.testBit 2730 _ = false from by decide, Bool.and_false]; rfl)
theorem sub_zero {v : Nat} (h : v &&& 2730 = v) : decide (v = 0) = !(bitN v 11 || bitN v 3 || bitN v 7 || bitN v 9 || bitN v 1 || bitN v 5) := by
 rw [Bool.eq_iff_iff]
 simp only [decide_eq_true_eq, Bool.not_eq_true', Bool.or_eq_false_iff]
 constructor
 . rintro rfl; decide
 . intro q
   apply Nat.eq_of_testBit_eq
   intro i
   rw [Nat.zero_testBit, <- bitN_tb]
   by_cases hi : i < 12
   . rw [sub_bA h i hi, q.2, q.1.2, q.1.1.2, q.1.1.1.2, q.1.1.1.1.2, q.1.1.1.1.1]
     unfold bA
     cases i == 1 <;> cases i == 3 <;> cases i == 5 <;> cases i == 7 <;> cases i == 9 <;> cases i == 11 <;> rfl
   . have := sub_tb h i
     rw [<- bitN_tb] at this
     rw [this, show Nat.testBit 2730 i = false from Nat.testBit_lt_two_pow (Nat.lt_of_lt_of_le (by decide : 2730 < 2 ^ 12) (Nat.pow_le_pow_right (by decide) (by omega))), Bool.and_false]
theorem mu_p : ∀ b11 b3 b7 x y z : Bool, (b11 || b3 || b7 || x || y || z) = true -> muB b11 b3 b7 x y z ≠ 99 := by decide
theorem mu_eq (v : Nat) : xmuD v = if muB (bitN v 11) (bitN v 3) (bitN v 7) (bitN v 9) (bitN v 1) (bitN v 5) = 99 then -1 else (muB (bitN v 11) (bitN v 3) (bitN v 7) (bitN v 9) (bitN v 1) (bitN v 5) : Int) := by
 have e : ∀ n, xhbD v n = bitN v n := fun _ => rfl
 unfold xmuD
 rw [e, e, e, e, e, e]
 cases bitN v 11 <;> cases bitN v 3 <;> cases bitN v 7 <;> cases bitN v 9 <;> cases bitN v 1 <;> cases bitN v 5 <;> rfl
theorem ask_sub {X : XS} (h : XInv X) : askD X &&& 2730 = askD X := by
 unfold askD
 rw [Nat.and_assoc, h.mie]
theorem int_eq {X : XS} (h : XInv X) : ∃ I : Nat, I = irX X /\ intD X = if I = 99 then -1 else (I : Int) := by
 have ha := ask_sub h
 have hd : ∀ i, Nat.testBit 546 i = false -> bitN X.c.mideleg i = false := fun i e => by
  have := sub_tb h.mid i
  rw [bitN_tb, this, e, Bool.and_false]
 have d3 := hd 3 (by decide)
 have d7 := hd 7 (by decide)
 have d11 := hd 11 (by decide)
 have b1 : ∀ i, bitN (wout (askD X) X.c.mideleg) i = (bitN (askD X) i && !bitN X.c.mideleg i) := fun i => by rw [bitN_tb, bitN_tb, bitN_tb, wout_tb]
 have b2 : ∀ i, bitN (askD X &&& X.c.mideleg) i = (bitN (askD X) i && bitN X.c.mideleg i) := fun i => by rw [bitN_tb, bitN_tb, bitN_tb, Nat.testBit_and]
 have s1 : wout (askD X) X.c.mideleg &&& 2730 = wout (askD X) X.c.mideleg := by
  apply Nat.eq_of_testBit_eq
  intro i
  rw [Nat.testBit_and, wout_tb]
  have := sub_tb ha i
  cases q : (askD X).testBit i
  . rfl
  . rw [q] at this; simp at this; rw [this, Bool.and_true]
 have s2 : askD X &&& X.c.mideleg &&& 2730 = askD X &&& X.c.mideleg := by
  rw [Nat.and_assoc, Nat.and_comm X.c.mideleg, <- Nat.and_assoc, ha]
 refine ⟨_, rfl, ?_⟩
 unfold intD irX
 rw [sub_zero s1, sub_zero s2, mu_eq, mu_eq]
 simp only [b1, b2, d3, d7, d11, Bool.not_false, Bool.and_true, Bool.and_false]
 generalize bitN (askD X) 1 = a1
 generalize bitN (askD X) 3 = a3
 generalize bitN (askD X) 5 = a5
 generalize bitN (askD X) 7 = a7
 generalize bitN (askD X) 9 = a9
 generalize bitN (askD X) 11 = a11
 generalize bitN X.c.mideleg 1 = e1
 generalize bitN X.c.mideleg 5 = e5
 generalize bitN X.c.mideleg 9 = e9
 generalize decide (X.mode = 3) = m3
 generalize decide (X.mode = 0) = m0
 generalize decide (X.mode = 1) = m1
 generalize bitN X.c.mstatus 3 = ie
 generalize bitN X.c.mstatus 1 = se
 unfold intB irB
 simp only [Bool.not_not, Bool.or_false, Bool.false_or]
 obtain ⟨p, hp⟩ := zn1 ((a11 || a3 || a7 || (a9 && !e9) || (a1 && !e1) || (a5 && !e5)))
 obtain ⟨q, hq⟩ := zn1 (((a9 && e9) || (a1 && e1) || (a5 && e5)))
 rw [<- hp, <- hq]
 have P : p = true -> muB a11 a3 a7 (a9 && !e9) (a1 && !e1) (a5 && !e5) ≠ 99 := by rw [hp]; exact mu_p _ _ _ _ _ _
 have Q : q = true -> muB false false false (a9 && e9) (a1 && e1) (a5 && e5) ≠ 99 := by rw [hq]; exact mu_p false false false _ _ _
 generalize muB a11 a3 a7 (a9 && !e9) (a1 && !e1) (a5 && !e5) = U at P
 generalize muB false false false (a9 && e9) (a1 && e1) (a5 && e5) = V at Q
 clear hp hq
 cases p <;> cases q <;> cases m3 <;> cases m0 <;> cases m1 <;> cases ie <;> cases se <;> simp at P Q |- <;> simp [P, Q]
structure Cho (X : XS) (k : Int) (c : Nat) : Prop where
 lt : c < 16
 a : ∀ i, i < 12 -> takB X i = true -> k = 2 /\ rankD X c <= rankD X i
 b : k = 2 -> takB X c = true
 d : k = 3 -> askD X = 0
theorem tak_eq {X : XS} (h : XInv X) (i : Nat) (hi : i < 12) : takB X i = tkX X (akX X i) (dlX X i) /\ rankD X i = rkB i (dlX X i) := by
 have hm : X.c.mideleg &&& 2730 = X.c.mideleg := sub_trans h.mid (by decide)
 have hd : ∀ i, Nat.testBit 546 i = false -> bitN X.c.mideleg i = false := fun i e => by
  have := sub_tb h.mid i
  rw [bitN_tb, this, e, Bool.and_false]
 have e := sub_bA hm i hi
 rw [hd 3 (by decide), hd 7 (by decide), hd 11 (by decide)] at e
 unfold takB rankD
 rw [sub_bA (ask_sub h) i hi, e]
 exact ⟨rfl, rfl⟩
theorem ch_of {X : XS} (h : XInv X) (I : Nat) (hI : I = irX X) (hI2 : I < 12 \/ I = 99) :
 (∀ i, i < 12 -> takB X i = true -> I ≠ 99 /\ rankD X I <= rankD X i) /\ (I ≠ 99 -> takB X I = true) := by
 have all : (chX X 1 && chX X 3 && chX X 5 && chX X 7 && chX X 9 && chX X 11) = true := ch_all _ _ _ _ _ _ _ _ _ _ _ _ _ _
 simp only [Bool.and_eq_true] at all
 have one : ∀ i, i = 1 \/ i = 3 \/ i = 5 \/ i = 7 \/ i = 9 \/ i = 11 -> chX X i = true := by
  rintro i (rfl | rfl | rfl | rfl | rfl | rfl)
  . exact all.1.1.1.1.1
  . exact all.1.1.1.1.2
  . exact all.1.1.1.2
  . exact all.1.1.2
  . exact all.1.2
  . exact all.2
 clear all
 have two : ∀ i, i = 1 \/ i = 3 \/ i = 5 \/ i = 7 \/ i = 9 \/ i = 11 -> (takB X i = true -> I ≠ 99 /\ rankD X I <= rankD X i) /\ (I ≠ 99 -> takB X I = true) := by
  intro i hi
  have o := one i hi
  have t := tak_eq h i (by omega)
  have o : ((!tkX X (akX X i) (dlX X i) || (!(irX X == 99) && Nat.ble (rkB (irX X) (dlX X (irX X))) (rkB i (dlX X i)))) && ((irX X == 99) || tkX X (akX X (irX X)) (dlX X (irX X)))) = true := o
  rw [<- hI, <- t.1, <- t.2] at o
  simp only [Bool.and_eq_true, Bool.or_eq_true, Bool.not_eq_true'] at o
  refine ⟨fun ht => ?_, fun hn => ?_⟩
  . rcases o.1 with q | q
    . rw [ht] at q; cases q
    . have hn : I ≠ 99 := by simpa using q.1
      have t2 := (tak_eq h I (by omega)).2
      refine ⟨hn, ?_⟩
      rw [t2]
      exact Nat.le_of_ble_eq_true q.2
  . rcases o.2 with q | q
    . exact absurd (by simpa using q) hn
    . rw [(tak_eq h I (by omega)).1]; exact q
 refine ⟨fun i hi ht => ?_, (two 1 (.inl rfl)).2⟩
 by_cases hs : i = 1 \/ i = 3 \/ i = 5 \/ i = 7 \/ i = 9 \/ i = 11
 . exact (two i hs).1 ht
 . exfalso
   rw [(tak_eq h i hi).1] at ht
   have z : akX X i = false := by
    have : i = 0 \/ i = 2 \/ i = 4 \/ i = 6 \/ i = 8 \/ i = 10 := by omega
    rcases this with rfl | rfl | rfl | rfl | rfl | rfl <;> rfl
   rw [z] at ht
   cases ht
theorem cho_of {X : XS} (h : XInv X) : ∃ c : Nat, (stepX X).1.2 = c /\ Cho X (stepX X).1.1 c := by
 obtain ⟨I, hI, hE⟩ := int_eq h
 have hin := int_in X
 have hI2 : I < 12 \/ I = 99 := by
  by_cases q : I = 99
  . exact .inr q
  . rw [if_neg q] at hE; left; omega
 have C := ch_of h I hI hI2
 rcases step_is h with ⟨e, ha, _⟩ | ⟨c, hc, e, _⟩ | ⟨hi, _, e, _⟩ | ⟨hi, c, hc, _, e, _⟩
 . refine ⟨0, by rw [e]; rfl, by omega, fun i hi ht => ?_, by rw [e]; intro q; exact absurd q zq525, fun _ => ha⟩
   exfalso
   unfold takB tkX tkB at ht
   rw [ha] at ht
   have : bitN 0 i = false := by rw [bitN_tb, Nat.zero_testBit]
   rw [this] at ht
   cases ht
 . have hn : I ≠ 99 := by intro q; rw [if_pos q] at hE; omega
   have hc' : c = I := by rw [if_neg hn] at hE; omega
   subst hc'
   refine ⟨c, by rw [e], by omega, fun i hi ht => ⟨by rw [e], (C.1 i hi ht).2⟩, fun _ => C.2 hn, by rw [e]; intro q; exact absurd q zq525⟩
 . have hn : I = 99 := by
    by_cases q : I = 99
    . exact q
    . rw [if_neg q] at hE; omega
   exact ⟨0, by rw [e]; rfl, by omega, fun i hi ht => absurd hn (C.1 i hi ht).1, by rw [e]; intro q; exact absurd q zq525, by rw [e]; intro q; exact absurd q zq525⟩
 . have hn : I = 99 := by
    by_cases q : I = 99
    . exact q
    . rw [if_neg q] at hE; omega
   exact ⟨c, by rw [e], by omega, fun i hi ht => absurd hn (C.1 i hi ht).1, by rw [e]; intro q; exact absurd q zq525, by rw [e]; intro q; exact absurd q zq525⟩
section
attribute [local go_sem ↓] Go.wp_at_zero Go.wp_at_succ
structure Bo (w : World) (b n : Nat) : Prop where
 cell : ∀ j, j < n -> ∃ r : Bool, w.cell? ⟨b, j, none⟩ = some (.bool r)
 fro : ∀ o, w.frozen? ⟨b, o, none⟩ = false
 lt : b < w.heap.size
theorem Bo.more {w w' : World} {b n : Nat} {F : List Nat} (h : Bo w b n) (hk : Kept F w w') (hn : ¬ b ∈ F) : Bo w' b n := ⟨fun j hj => by obtain ⟨r, hr⟩ := h.cell j hj; exact ⟨r, (hk.cell (p := ⟨b, j, none⟩) h.lt hn).trans hr⟩, fun o => (hk.frozen (p := ⟨b, o, none⟩) h.lt hn).trans (h.fro o), Nat.lt_of_lt_of_le h.lt hk.size⟩
theorem Bo.set {w : World} {b n : Nat} (h : Bo w b n) (c k : Nat) (r : Bool) : Bo (w.setCell ⟨c, k, none⟩ (.bool r)) b n := by
 refine ⟨fun j hj => ?_, fun o => by rw [World.frozen?_setCell]; exact h.fro o, Nat.lt_of_lt_of_le h.lt ((Kept.refl [c] w).setCell (.inl (by simp)) (.bool r)).size⟩
 obtain ⟨x, hx⟩ := h.cell j hj
 by_cases e : b = c /\ j = k
 . obtain ⟨rfl, rfl⟩ := e
   exact ⟨r, World.cell?_setCell_same _ _ _ hx⟩
 . refine ⟨x, ?_⟩
   rw [World.cell?_setCell_other _ _ _ _ (by simp; omega)]
   exact hx
structure Tabs (w : World) (tb b0 b1 b2 b3 b4 n m : Nat) : Prop where
 hdr : BoxF w tb [.slice (some ⟨b0, 0, none⟩) n n, .slice (some ⟨b1, 0, none⟩) n n, .slice (some ⟨b2, 0, none⟩) n n, .slice (some ⟨b3, 0, none⟩) m m, .slice (some ⟨b4, 0, none⟩) n n]
 s0 : Bo w b0 n
 s1 : Bo w b1 n
 s2 : Bo w b2 n
 s3 : Bo w b3 m
 s4 : Bo w b4 n
 ne : ¬ tb ∈ [b0, b1, b2, b3, b4]
 nd : ¬ b1 = b2
 n4 : ¬ b4 ∈ [b0, b1, b2, b3]
theorem Tabs.set {w : World} {tb b0 b1 b2 b3 b4 n m : Nat} (h : Tabs w tb b0 b1 b2 b3 b4 n m) (c k : Nat) (r : Bool) (hc : c ∈ [b0, b1, b2, b3, b4]) : Tabs (w.setCell ⟨c, k, none⟩ (.bool r)) tb b0 b1 b2 b3 b4 n m :=
 ⟨h.hdr.more ((Kept.refl [c] w).setCell (.inl (by simp)) (.bool r)) (by simp; rintro rfl; exact h.ne hc), h.s0.set c k r, h.s1.set c k r, h.s2.set c k r, h.s3.set c k r, h.s4.set c k r, h.ne, h.nd, h.n4⟩
theorem Tabs.kept {w w' : World} {tb b0 b1 b2 b3 b4 n m : Nat} (h : Tabs w tb b0 b1 b2 b3 b4 n m) (hk : Kept [] w w') : Tabs w' tb b0 b1 b2 b3 b4 n m :=
 ⟨h.hdr.kept hk, h.s0.more hk (by simp), h.s1.more hk (by simp), h.s2.more hk (by simp), h.s3.more hk (by simp), h.s4.more hk (by simp), h.ne, h.nd, h.n4⟩
def Tru (w : World) (b j : Nat) : Prop := w.cell? ⟨b, j, none⟩ = some (.bool true)
def Up (w w' : World) : Prop := ∀ b j, b < w.heap.size -> Tru w b j -> Tru w' b j
theorem Up.refl (w : World) : Up w w := fun _ _ _ h => h
theorem Up.kept {w w' : World} (h : Kept [] w w') : Up w w' := fun b j hb ht => (h.cell (p := ⟨b, j, none⟩) hb (by simp)).trans ht
theorem Up.set (w : World) (b k : Nat) : Up w (w.setCell ⟨b, k, none⟩ (.bool true)) := by
 intro c j hc ht
 unfold Tru at *
 by_cases e : c = b /\ j = k
 . obtain ⟨rfl, rfl⟩ := e
   exact World.cell?_setCell_same _ _ _ ht
 . rw [World.cell?_setCell_other _ _ _ _ (by simp; omega)]
   exact ht
theorem Up.trans {w w' w'' : World} (h : Up w w') (hs : w.heap.size <= w'.heap.size) (h2 : Up w' w'') : Up w w'' := fun b j hb ht => h2 b j (by omega) (h b j hb ht)
def Cov (w : World) (b1 b2 n : Nat) (us su : Bool) (e P c : Nat) : Prop := ((bitN e 4 == us) || (bitN e 4 && su)) = true -> ∀ k, k < c -> ∀ p, P + k = p + 524288 -> p < n -> Tru w b1 p /\ (bitN e 2 = true -> Tru w b2 p)
theorem Cov.up {w w' : World} {b1 b2 n : Nat} {us su : Bool} {e P c : Nat} (h : Cov w b1 b2 n us su e P c) (hu : Up w w') (h1 : b1 < w.heap.size) (h2 : b2 < w.heap.size) : Cov w' b1 b2 n us su e P c := fun hm k hk p hp hn => ⟨hu _ _ h1 (h hm k hk p hp hn).1, fun hw => hu _ _ h2 ((h hm k hk p hp hn).2 hw)⟩
theorem bit_tst (v i : Nat) (hv : v < 4294967296) (x : Int) (hx : (v : Int) / 2 ^ i = x) : (bits .and .i64 x 1 == 1) = bitN v i := by
 have e : x = ((v / 2 ^ i : Nat) : Int) := by rw [<- hx]; simp
 have l : v / 2 ^ i < 9223372036854775808 := Nat.lt_of_le_of_lt (Nat.div_le_self _ _) (by omega)
 have := b_and (v / 2 ^ i) 1 l (by decide)
 rw [e]
 have h1 : bits .and .i64 ((v / 2 ^ i : Nat) : Int) 1 = ((v / 2 ^ i &&& 1 : Nat) : Int) := this
 rw [h1, Nat.and_one_is_mod]
 unfold bitN
 rw [Bool.eq_iff_iff]
 simp
 omega
set_option maxRecDepth 100000 in
theorem k_cover (tb b0 b1 b2 b3 b4 n m : Nat) (hn : n <= 100) (c : Nat) (hc : c <= 1024) (ppn e : Nat) (p1 : ppn <= 4294967296) (he : e < 4294967296) (u s : Bool) (w : World) (hw : Hid (Tabs w tb b0 b1 b2 b3 b4 n m)) :
 Calls prog 150 #[.pointer (some ⟨tb, 0, none⟩), .int .i64 ppn, .int .i64 c, .int .i64 e, .bool u, .bool s] w fun o w' => o = .returned (.tuple #[]) /\ Tabs w' tb b0 b1 b2 b3 b4 n m /\ Kept [b0, b1, b2, b3] w w' /\ Up w w' /\ Cov w' b1 b2 n u s e ppn c := by
 have K0 := hide1 (Kept.refl [b0, b1, b2, b3] w)
 have U0 := hide1 (Up.refl w)
 have q4 := bit_tst e 4 he ((e : Int) / 16) rfl
 have q2 := bit_tst e 2 he ((e : Int) / 4) rfl
 have N0 : Hid (((bitN e 4 == u) || (bitN e 4 && s)) = false -> ∀ W i, Cov W b1 b2 n u s e ppn i) := hide1 (fun h W i hm => absurd hm (by rw [h]; decide))
 have V0 : Hid (Cov w b1 b2 n u s e ppn 0) := hide1 (fun _ k hk => absurd hk (by omega))
 have ST : Hid (∀ i W, Cov W b1 b2 n u s e ppn i -> (∀ p, ppn + i = p + 524288 -> p < n -> False) -> Cov W b1 b2 n u s e ppn (i + 1)) := hide1 (fun i W h hp hm k hk p e1 e2 => by
  rcases Nat.lt_or_ge k i with h3 | h3
  . exact h hm k h3 p e1 e2
  . obtain rfl : k = i := by omega
    exact absurd (hp p e1 e2) (by simp))
 have SU : Hid (∀ i W W' p, Cov W b1 b2 n u s e ppn i -> Tabs W tb b0 b1 b2 b3 b4 n m -> Up W W' -> ppn + i = p + 524288 -> Tru W' b1 p -> (bitN e 2 = true -> Tru W' b2 p) -> Cov W' b1 b2 n u s e ppn (i + 1)) := hide1 (fun i W W' p h ht hu hp t1 t2 hm k hk p' e1 e2 => by
  rcases Nat.lt_or_ge k i with h3 | h3
  . exact h.up hu ht.s1.lt ht.s2.lt hm k h3 p' e1 e2
  . obtain rfl : k = i := by omega
    obtain rfl : p' = p := by omega
    exact ⟨t1, t2⟩)
 obtain ⟨bu, hbu⟩ := zn1 (bitN e 4)
 obtain ⟨bw, hbw⟩ := zn1 (bitN e 2)
 rw [<- hbu] at q4 N0
 rw [<- hbw] at q2 SU
 clear he hbu hbw
 by_cases hm : ((bu == u) || (bu && s)) = false
 . have N1 := hide1 (N0.out hm)
   cases bu <;> cases u <;> cases s <;> first | exact absurd hm (by decide) | skip
   all_goals as_aux_lemma =>
    clear N0 ST SU V0 hm
    go_enter func150, ntmps150
    go_upto_region 2 with fail
    all_goals
     go_wp2_with fail
     go_loopw [14] (fun x wr => ∃ i : Nat, i <= c /\ x = .int .i64 i /\ Hid (Tabs wr tb b0 b1 b2 b3 b4 n m) /\ Hid (Kept [b0, b1, b2, b3] w wr) /\ Hid (Up w wr)) (fun x _ => c - (intOf x).toNat)
     case atStart => exact ⟨0, by omega, rfl, hw, K0, U0⟩
     case round =>
      obtain ⟨i, hi, rfl, hb, hk, hU⟩ := hrel
      clear hw K0 U0 q2
      have hz := hb.out.hdr.lt
      have c1 := hb.out.hdr.cell 1 _ rfl
      by_cases hlt : i < c
      . have hlt' : decide ((i : Int) < (c : Int)) = true := by simp; omega
        go_wp2_with fail
        all_goals
         go_roundw
         case rel => exact ⟨i + 1, by omega, by go_num, hb, hk, hU⟩
         case measure => exact zq191
      . have hlt' : decide ((i : Int) < (c : Int)) = false := by simp; omega
        go_wp2_with fail
        go_end0
        exact ⟨rfl, hb.out, hk.out, hU.out, N1.out _ _⟩
 . clear N0
   cases bu <;> cases u <;> cases s <;> first | exact absurd rfl hm | skip
   all_goals cases bw
   all_goals as_aux_lemma =>
    clear hm
    go_enter func150, ntmps150
    go_upto_region 2 with fail
    all_goals
     go_wp2_with fail
     go_loopw [14] (fun x wr => ∃ i : Nat, i <= c /\ x = .int .i64 i /\ Hid (Tabs wr tb b0 b1 b2 b3 b4 n m) /\ Hid (Kept [b0, b1, b2, b3] w wr) /\ Hid (Up w wr) /\ Hid (Cov wr b1 b2 n _ _ e ppn i)) (fun x _ => c - (intOf x).toNat)
     case atStart => exact ⟨0, by omega, rfl, hw, K0, U0, V0⟩
     case round =>
      obtain ⟨i, hi, rfl, hb, hk, hU, hV⟩ := hrel
      clear hw K0 U0 V0
      have hz := hb.out.hdr.lt
      have c1 := hb.out.hdr.cell 1 _ rfl
      by_cases hlt : i < c
      . have hlt' : decide ((i : Int) < (c : Int)) = true := by simp; omega
        by_cases h0 : 0 <= (ppn : Int) + i - 524288
        . obtain ⟨p, hp⟩ : ∃ p : Nat, (ppn : Int) + i - 524288 = p := ⟨((ppn : Int) + i - 524288).toNat, by omega⟩
          by_cases h1 : p < n
          . have h1' : decide ((p : Int) < (n : Int)) = true := by simp; omega
            have c2 := hb.out.hdr.cell 2 _ rfl
            obtain ⟨r1, e1⟩ := hb.out.s1.cell p h1
            obtain ⟨r2, e2⟩ := hb.out.s2.cell p h1
            have f1 := hb.out.s1.fro p
            have f2 := hb.out.s2.fro p
            have n1 : ¬ tb = b1 := fun h => hb.out.ne (by simp [h])
            have n2 : ¬ b1 = tb := fun h => n1 h.symm
            have n3 := hb.out.nd
            have n4 : ¬ b2 = b1 := fun h => n3 h.symm
            have B1 := hide1 (hb.out.set b1 p true (by simp))
            have G1 : Hid (Kept [b0, b1, b2, b3] wr (wr.setCell ⟨b1, p, none⟩ (.bool true))) := zq140
            have U1 := hide1 (Up.set wr b1 p)
            have B2 := hide1 (B1.out.set b2 p true (by simp))
            have G2 : Hid (Kept [b0, b1, b2, b3] wr ((wr.setCell ⟨b1, p, none⟩ (.bool true)).setCell ⟨b2, p, none⟩ (.bool true))) := hide1 (G1.out.setCell (.inl (by simp)) _)
            have U2 := hide1 (U1.out.trans G1.out.size (Up.set _ b2 p))
            have T1 : Hid (Tru (wr.setCell ⟨b1, p, none⟩ (.bool true)) b1 p) := hide1 (World.cell?_setCell_same _ _ _ e1)
            have T2 : Hid (Tru ((wr.setCell ⟨b1, p, none⟩ (.bool true)).setCell ⟨b2, p, none⟩ (.bool true)) b2 p) := hide1 (by
             obtain ⟨r, er⟩ := B1.out.s2.cell p h1
             exact World.cell?_setCell_same _ _ _ er)
            have PI := hide1 (show ppn + i = p + 524288 by omega)
            go_wp2_with fail
            all_goals
             go_roundw
             case rel => first
              | exact ⟨i + 1, by omega, by go_num, B1, hide1 (hk.out.trans G1.out), hide1 (hU.out.trans hk.out.size U1.out), hide1 (SU.out i _ _ p hV.out hb.out U1.out PI.out T1.out (fun h => Bool.noConfusion h))⟩
              | exact ⟨i + 1, by omega, by go_num, B2, hide1 (hk.out.trans G2.out), hide1 (hU.out.trans hk.out.size U2.out), hide1 (SU.out i _ _ p hV.out hb.out U2.out PI.out ((Up.set _ b2 p) _ _ B1.out.s1.lt T1.out) (fun _ => T2.out))⟩
             case measure => exact zq191
          . have h1' : decide ((p : Int) < (n : Int)) = false := by simp; omega
            exact zq400
        . have h0' : decide (0 <= (ppn : Int) + i - 524288) = false := by simp; omega
          exact zq400
      . have hlt' : decide ((i : Int) < (c : Int)) = false := by simp; omega
        obtain rfl : i = c := by omega
        go_wp2_with fail
        go_end0
        exact ⟨rfl, hb.out, hk.out, hU.out, hV.out⟩
set_option maxRecDepth 100000 in
theorem k_hasT (v i : Nat) (hi : i < 32) (hv : v < 4294967296) (w : World) : CS 105 #[.int .i64 v, .int .i64 (i : Int)] (.bool (bitN v i)) w := by
 rw [<- bit_tst v i hv _ rfl]
 go_enter func105, ntmps105
 exact zq210
set_option maxRecDepth 100000 in
theorem k_hasBothT (i : Nat) (hi : i < 32) (A : Nat) (hA : A < 4294967296) (fb : Nat) (f : Fc) (hf0 : bits .and .i64 f.ip f.ie = (A : Int)) (w : World) (hf : Hid (BoxF w fb f.l)) : CK 146 #[.pointer (some ⟨fb, 0, none⟩), .int .i64 (i : Int)] (.bool (bitN A i)) w := by
 have c3 := hf.out.cell 3 _ rfl
 have c4 := hf.out.cell 4 _ rfl
 have cl := hf.out.lt
 rw [<- bit_tst A i hA _ rfl]
 clear hA
 go_enter func146, ntmps146
 go_upto_region 1 with fail
 exact zq401
structure Loo (X : XS) (f : Fc) : Prop where
 lt : askD X < 4294967296
 ask : bits .and .i64 f.ip f.ie = (askD X : Int)
 d : ∀ i : Nat, (bits .and .i64 (f.mideleg / 2 ^ i) 1 == 1) = bitN X.c.mideleg i
 s1 : (bits .and .i64 (f.status / 2) 1 == 1) = bitN X.c.mstatus 1
 s3 : (bits .and .i64 (f.status / 8) 1 == 1) = bitN X.c.mstatus 3
 m0 : (f.mode == 0) = decide (X.mode = 0)
 m1 : (f.mode == 1) = decide (X.mode = 1)
 m3 : (f.mode == 3) = decide (X.mode = 3)
 n3 : (f.mode != 3) = !decide (X.mode = 3)
theorem loo_of {X : XS} (hX : XInv X) {f : Fc} (fx : FcX X f) : Loo X f := by
 have h := hX.ok
 have st : f.status = ((X.c.mstatus : Nat) : Int) := fx.status
 have md : f.mideleg = ((X.c.mideleg : Nat) : Int) := fx.mideleg
 have m := fx.mode
 refine ⟨Nat.lt_of_le_of_lt (Nat.and_le_right (n := penD X) (m := X.c.mie)) h.mie, ?_, fun i => bit_tst _ i h.mideleg _ (by rw [md]), bit_tst _ 1 h.mstatus _ (by rw [st]; rfl), bit_tst _ 3 h.mstatus _ (by rw [st]; rfl), ?_, ?_, ?_, ?_⟩
 . exact andE (show f.ip = ((penD X : Nat) : Int) from fx.ip) (show f.ie = ((X.c.mie : Nat) : Int) from fx.ie) (pen_lt' hX) h.mie
 . rw [m, Bool.eq_iff_iff]; simp
 . rw [m, Bool.eq_iff_iff]; simp; omega
 . rw [m, Bool.eq_iff_iff]; simp; omega
 . rw [m, Bool.eq_iff_iff]; simp; omega
set_option maxRecDepth 100000 in
theorem k_takesT (i : Nat) (hi : i < 32) (X : XS) (fb : Nat) (f : Fc) (L : Hid (Loo X f)) (w : World) (hf : Hid (BoxF w fb f.l)) : CK 103 #[.pointer (some ⟨fb, 0, none⟩), .int .i64 (i : Int)] (.bool (takB X i)) w := by
 have HB := hide1 (k_hasBothT i hi _ L.out.lt fb f L.out.ask w hf)
 have d := L.out.d i
 have s1 := L.out.s1
 have s3 := L.out.s3
 have m0 := L.out.m0
 have m1 := L.out.m1
 have m3 := L.out.m3
 have n3 := L.out.n3
 unfold takB
 obtain ⟨A, hA⟩ := zn2 (bitN (askD X) i)
 obtain ⟨D, hD⟩ := zn2 (bitN X.c.mideleg i)
 obtain ⟨S1, hS1⟩ := zn2 (bitN X.c.mstatus 1)
 obtain ⟨S3, hS3⟩ := zn2 (bitN X.c.mstatus 3)
 obtain ⟨M0, hM0⟩ := zn2 (decide (X.mode = 0))
 obtain ⟨M1, hM1⟩ := zn2 (decide (X.mode = 1))
 obtain ⟨M3, hM3⟩ := zn2 (decide (X.mode = 3))
 rw [hA] at HB
 rw [hD] at d
 rw [hS1] at s1
 rw [hS3] at s3
 rw [hM0] at m0
 rw [hM1] at m1
 rw [hM3] at m3 n3
 rw [hA, hD, hS1, hS3, hM0, hM1, hM3]
 clear L hA hD hS1 hS3 hM0 hM1 hM3
 go_enter func103, ntmps103
 go_wp2_with fail
 refine HB.out.mono ?_
 rintro o w1 ⟨rfl, hk⟩
 have hf1 := hide1 (hf.out.kept hk)
 have K1 := hide1 hk
 clear hk HB hf
 have c0 := hf1.out.cell 0 _ rfl
 have c2 := hf1.out.cell 2 _ rfl
 have c5 := hf1.out.cell 5 _ rfl
 have cl := hf1.out.lt
 cases A
 . clear d s1 s3 m0 m1 m3 n3
   go_wp2_with fail
   go_ret
   exact ⟨rfl, K1.out⟩
 cases D
 . clear s1 m0 m1
   cases M3 <;> cases S3
   all_goals
    go_wp2_with fail
    go_ret
    exact ⟨rfl, K1.out⟩
 . clear s3 m3 n3
   cases M0 <;> cases M1 <;> cases S1
   all_goals
    go_wp2_with fail
    go_ret
    exact ⟨rfl, K1.out⟩
theorem rk_of (i : Nat) (d : Bool) (a : Nat) (h : (bif i == 11 then 0 else bif i == 3 then 1 else bif i == 7 then 2 else bif i == 9 then 3 else bif i == 1 then 4 else bif i == 5 then 5 else 99) = a) : rkB i d = a + bif d then 6 else 0 := by unfold rkB; rw [h]
set_option maxRecDepth 100000 in
theorem k_rankT (i : Nat) (hi : i < 32) (X : XS) (fb : Nat) (f : Fc) (L : Hid (Loo X f)) (w : World) (hf : Hid (BoxF w fb f.l)) : CS 104 #[.pointer (some ⟨fb, 0, none⟩), .int .i64 (i : Int)] (.int .i64 ((rankD X i : Nat) : Int)) w := by
 have c5 := hf.out.cell 5 _ rfl
 have cl := hf.out.lt
 have d := L.out.d i
 unfold rankD
 obtain ⟨D, hD⟩ := zn2 (bitN X.c.mideleg i)
 rw [hD] at d |-
 clear hD L
 have E := hide1 (rk_of i D)
 have n : ∀ k : Nat, ((i : Int) == (k : Int)) = (i == k) := fun k => by rw [Bool.eq_iff_iff]; simp; omega
 have n11 : ((i : Int) == 11) = (i == 11) := n 11
 have n3 : ((i : Int) == 3) = (i == 3) := n 3
 have n7 : ((i : Int) == 7) = (i == 7) := n 7
 have n9 : ((i : Int) == 9) = (i == 9) := n 9
 have n1 : ((i : Int) == 1) = (i == 1) := n 1
 have n5 : ((i : Int) == 5) = (i == 5) := n 5
 obtain ⟨R, hR⟩ := zn2 (rkB i D)
 rw [hR] at E |-
 generalize (i == 11) = b11 at n11 E
 generalize (i == 3) = b3 at n3 E
 generalize (i == 7) = b7 at n7 E
 generalize (i == 9) = b9 at n9 E
 generalize (i == 1) = b1 at n1 E
 generalize (i == 5) = b5 at n5 E
 clear hR n
 have W : ∀ a : Nat, Hid (R = a) -> Hid (((R : Nat) : Int) = a) := fun a h => hide1 (by rw [h.out])
 cases b11
 . cases b3
   . cases b7
     . cases b9
       . cases b1
         . cases b5
           . exact zq402
           . exact zq402
         . exact zq402
       . exact zq402
     . exact zq402
   . exact zq402
 . exact zq402
set_option maxRecDepth 100000 in
theorem k_chosenT (X : XS) (k : Int) (c : Nat) (H : Hid (Cho X k c)) (fb : Nat) (f : Fc) (L : Hid (Loo X f)) (w : World) (hf : Hid (BoxF w fb f.l)) : CK 55 #[.pointer (some ⟨fb, 0, none⟩), .agg #[.int .i64 k, .int .i64 (c : Int)]] (.bool true) w := by
 have c16 := H.out.lt
 have k0 : Kept [] w (w.alloc (.cells #[.int .i64 k, .int .i64 (c : Int)] 45)) := zq136
 have hf0 := hide1 (hf.out.kept k0)
 have D0 := hide1 (BoxF.new w [.int .i64 k, .int .i64 (c : Int)] 45)
 have K0 := hide1 k0
 clear k0 hf
 go_enter func55, ntmps55
 go_wp2_with fail
 go_loopw [5] (fun x wr => ∃ i : Nat, i <= 12 /\ x = .int .i64 i /\ Hid (BoxF wr fb f.l) /\ Hid (BoxF wr w.heap.size [.int .i64 k, .int .i64 (c : Int)]) /\ Hid (Kept [] w wr)) (fun x _ => 12 - (intOf x).toNat)
 case atStart => exact ⟨0, by omega, rfl, hf0, D0, K0⟩
 case round =>
  obtain ⟨i, hi, rfl, hfr, hdr, hkr⟩ := hrel
  clear hf0 D0 K0
  by_cases hlt : i < 12
  . have hlt' : decide ((i : Int) < 12) = true := by simp; omega
    go_wp2_with fail
    refine (k_takesT i (by omega) X fb f L wr hfr).mono ?_
    rintro o w1 ⟨rfl, hk⟩
    obtain ⟨r, hr⟩ := zn2 (takB X i)
    rw [hr]
    have hf1 := hide1 (hfr.out.kept hk)
    have hd1 := hide1 (hdr.out.kept hk)
    have K1 := hide1 (hkr.out.trans hk)
    clear hk hfr hdr hkr
    have d0 := hd1.out.cell 0 _ rfl
    have d1 := hd1.out.cell 1 _ rfl
    cases r
    . clear hr
      exact zq403
    . have q := H.out.a i hlt hr
      have q2 : (k != 2) = false := by simp [q.1]
      have q2' : (k == 2) = true := by simp [q.1]
      have R1 := hide1 (k_rankT i (by omega) X fb f L w1 hf1)
      have R2 := hide1 (k_rankT c (by omega) X fb f L w1 hf1)
      have q3 : decide (((rankD X i : Nat) : Int) < ((rankD X c : Nat) : Int)) = false := by simp; exact q.2
      have q4 : decide (rankD X i < rankD X c) = false := by simp; exact q.2
      obtain ⟨ra, hra⟩ := zn2 (rankD X i)
      obtain ⟨rc, hrc⟩ := zn2 (rankD X c)
      rw [hra] at R1 q3 q4
      rw [hrc] at R2 q3 q4
      clear hr q hra hrc
      go_wp2_with fail
      refine R1.out.mono ?_
      rintro o wq ⟨rfl, hwq⟩
      rw [hwq]
      clear hwq wq R1
      go_wp2_with fail
      refine R2.out.mono ?_
      rintro o wq ⟨rfl, hwq⟩
      rw [hwq]
      clear hwq wq R2
      exact zq403
  . have hlt' : decide ((i : Int) < 12) = false := by simp; omega
    have d0 := hdr.out.cell 0 _ rfl
    have d1 := hdr.out.cell 1 _ rfl
    by_cases h2 : k = 2
    . have q2 : (k == 2) = true := by simp [h2]
      have tk' := H.out.b h2
      clear h2
      go_wp2_with fail
      refine (k_takesT c (by omega) X fb f L wr hfr).mono ?_
      rintro o w1 ⟨rfl, hk⟩
      rw [tk']
      have K1 := hide1 (hkr.out.trans hk)
      clear hk hfr hdr hkr
      go_wp2_with fail
      go_ret
      exact ⟨rfl, K1.out⟩
    . have q2 : (k == 2) = false := by simp [h2]
      have c3 := hfr.out.cell 3 _ rfl
      have c4 := hfr.out.cell 4 _ rfl
      have cl := hfr.out.lt
      have dl := hdr.out.lt
      by_cases h3 : k = 3
      . have q3 : (k != 3) = false := by simp [h3]
        have q3' : (k == 3) = true := by simp [h3]
        have a0 : bits .and .i64 f.ip f.ie = 0 := by rw [L.out.ask, H.out.d h3]; rfl
        exact zq404
      . have q3 : (k != 3) = true := by simp [h3]
        have q3' : (k == 3) = false := by simp [h3]
        exact zq404
end
theorem xset_tb (v k i : Nat) (b : Bool) : (xsetD v (2 ^ k) b).testBit i = if i = k then b else v.testBit i := by
 unfold xsetD
 cases b
 . dsimp only [cond]
   rw [wout_tb, Nat.testBit_two_pow]
   exact zq405
 . dsimp only [cond]
   rw [Nat.testBit_or, Nat.testBit_two_pow]
   exact zq405
theorem tst_and (s k : Nat) : (!decide (s &&& 2 ^ k = 0)) = s.testBit k := by
 rw [and_bit, bitN_tb]
 have := Nat.two_pow_pos k
 cases s.testBit k
 . simp
 . simp
theorem str_tb (s mode i : Nat) : (xstrD s mode).testBit i = if i = 1 then false else if i = 8 then decide (mode = 1) else if i = 5 then s.testBit 1 else s.testBit i := by
 have e : xstrD s mode = xsetD (xsetD (xsetD s (2 ^ 5) (!decide (s &&& 2 ^ 1 = 0))) (2 ^ 8) (decide (mode = 1))) (2 ^ 1) false := rfl
 rw [e, xset_tb, xset_tb, xset_tb, tst_and]
theorem mtr_tb (s mode i : Nat) (hm : mode < 4) : (xmtrD s mode).testBit i = if i = 3 then false else if i = 11 \/ i = 12 then mode.testBit (i - 11) else if i = 7 then s.testBit 3 else s.testBit i := by
 have e : xmtrD s mode = xsetD (xmixD (xsetD s (2 ^ 7) (!decide (s &&& 2 ^ 3 = 0))) (mode * 2 ^ 11) 6144) (2 ^ 3) false := rfl
 rw [e, xset_tb, tst_and]
 by_cases h3 : i = 3
 . rw [if_pos h3, if_pos h3]
 rw [if_neg h3, if_neg h3]
 unfold xmixD
 have e2 : Nat.testBit 6144 i = decide (i = 11 \/ i = 12) := by
  by_cases hi : i < 13
  . exact zq406
  . exact zq407
 rw [Nat.testBit_or, Nat.testBit_and, wout_tb, e2, xset_tb, Nat.testBit_mul_two_pow]
 by_cases h : i = 11 \/ i = 12
 . rw [if_pos h]; simp [h]; omega
 . rw [if_neg h]; simp [h]
theorem mret_tb (s i : Nat) : (xmretD s).testBit i = if i = 7 then true else if i = 11 \/ i = 12 then false else if i = 3 then (xmretA s).testBit 7 else (xmretA s).testBit i := by
 have e : xmretD s = xsetD (wout (xsetD (xmretA s) (2 ^ 3) (!decide (xmretA s &&& 2 ^ 7 = 0))) 6144) (2 ^ 7) true := rfl
 have e2 : Nat.testBit 6144 i = decide (i = 11 \/ i = 12) := by
  by_cases hi : i < 13
  . exact zq406
  . exact zq407
 rw [e, xset_tb, wout_tb, e2, xset_tb, tst_and]
 by_cases h : i = 11 \/ i = 12
 . rw [if_pos h]; simp [h]
 . rw [if_neg h]; simp [h]
theorem mretA_tb (s i : Nat) : (xmretA s).testBit i = if i = 17 /\ ¬ s / 2048 % 4 = 3 then false else s.testBit i := by
 unfold xmretA
 by_cases h : s &&& 6144 = 6144
 . rw [if_pos h, if_neg (by have := mpp3 s h; omega)]
 . rw [if_neg h]
   have e : wout s 131072 = xsetD s (2 ^ 17) false := rfl
   have h3 : ¬ s / 2048 % 4 = 3 := by
    intro q
    apply h
    have e3 : s &&& 6144 = s / 2048 % 4 * 2048 := by
     rw [<- and6144]
     apply Nat.eq_of_testBit_eq
     intro i
     rw [Nat.mul_comm, show (2048 : Nat) = 2 ^ 11 from rfl, Nat.mul_comm, Nat.testBit_mul_two_pow, Nat.testBit_div_two_pow]
     by_cases hi : 11 <= i
     . rw [show i - 11 + 11 = i by omega]; simp [hi]
     . simp [hi]
       intro _
       have : i = 0 \/ i = 1 \/ i = 2 \/ i = 3 \/ i = 4 \/ i = 5 \/ i = 6 \/ i = 7 \/ i = 8 \/ i = 9 \/ i = 10 := by omega
       rcases this with rfl | rfl | rfl | rfl | rfl | rfl | rfl | rfl | rfl | rfl | rfl <;> decide
    rw [e3, q]
   rw [e, xset_tb]
   by_cases h17 : i = 17
   . rw [if_pos h17, if_pos ⟨h17, h3⟩]
   . rw [if_neg h17, if_neg (fun q => h17 q.1)]
theorem sret_tb (s i : Nat) : (xsretD s).testBit i = if i = 5 then true else if i = 8 \/ i = 17 then false else if i = 1 then s.testBit 5 else s.testBit i := by
 have e : xsretD s = xsetD (wout (xsetD s (2 ^ 1) (!decide (s &&& 2 ^ 5 = 0))) 131328) (2 ^ 5) true := rfl
 have e2 : Nat.testBit 131328 i = decide (i = 8 \/ i = 17) := by
  have : (131328 : Nat) = xsetD (xsetD 0 (2 ^ 8) true) (2 ^ 17) true := by decide
  rw [this, xset_tb, xset_tb, Nat.zero_testBit]
  by_cases h : i = 17 <;> by_cases h' : i = 8 <;> simp [h, h']
 rw [e, xset_tb, wout_tb, e2, xset_tb, tst_and]
 by_cases h : i = 8 \/ i = 17
 . rw [if_pos h]; simp [h]
 . rw [if_neg h]; simp [h]
theorem bitV {x y : Int} {v : Nat} (i : Nat) (hv : v < 4294967296) (hx : (v : Int) / 2 ^ i = x) (hy : y = 1) : bits .and .i64 x y = ((v.testBit i).toNat : Nat) := by
 have e : x = ((v / 2 ^ i : Nat) : Int) := by rw [<- hx]; simp
 have l : v / 2 ^ i < 4294967296 := Nat.lt_of_le_of_lt (Nat.div_le_self _ _) hv
 rw [andE e (m := 1) hy l (by decide), Nat.and_one_is_mod, Nat.testBit_eq_decide_div_mod_eq]
 have : v / 2 ^ i % 2 < 2 := Nat.mod_lt _ (by decide)
 by_cases h : v / 2 ^ i % 2 = 1
 . simp [h]
 . have : v / 2 ^ i % 2 = 0 := by omega
   simp [this]
theorem xor0 {x y m : Int} {a b M : Nat} (hx : x = (a : Nat)) (hy : y = (b : Nat)) (hm : m = (M : Nat)) (ha : a < 4294967296) (hb : b < 4294967296) (hM : M < 4294967296) (h : ∀ i, i < 32 -> M.testBit i = false -> a.testBit i = b.testBit i) : bits .andNot .i64 (bits .xor .i64 x y) m = 0 := by
 rw [hx, hy, hm, b_xor a b (by omega) (by omega)]
 have l : a ^^^ b < 2 ^ 32 := Nat.xor_lt_two_pow ha hb
 rw [b_andn _ _ (by omega) (by omega)]
 have : wout (a ^^^ b) M = 0 := by
  apply Nat.eq_of_testBit_eq
  intro i
  rw [wout_tb, Nat.zero_testBit, Nat.testBit_xor]
  cases hM' : M.testBit i
  . by_cases hi : i < 32
    . rw [h i hi hM']; simp
    . have q : ∀ z, z < 4294967296 -> z.testBit i = false := fun z hz => Nat.testBit_lt_two_pow (Nat.lt_of_lt_of_le hz (Nat.pow_le_pow_right (n := 2) (by decide) (by omega : 32 <= i)))
      rw [q a ha, q b hb]; rfl
  . simp
 rw [this]; rfl
theorem regG_app (x : List Nat) : ∀ (n k : Nat) (s : ByteArray), regG x n k s = s ++ regG x n k ⟨#[]⟩
 | 0, _, s => (ByteArray.append_empty).symm
 | n + 1, k, s => by
  rw [regG, regG, regG_app x n (k + 1) (s ++ leA (x.getD k 0) 4), regG_app x n (k + 1) (⟨#[]⟩ ++ leA (x.getD k 0) 4), ByteArray.append_assoc]
  congr 1
theorem regs_of (X : XS) : (showX X).extract 4 132 = regG X.x 32 0 ⟨#[]⟩ := by
 have e : ∃ R : ByteArray, showX X = leA X.pc 4 ++ (regG X.x 32 0 ⟨#[]⟩ ++ R) := by
  unfold showX hartS
  rw [regG_app X.x 32 0 (leA X.pc 4)]
  simp only [ByteArray.append_assoc]
  exact ⟨_, rfl⟩
 obtain ⟨R, e⟩ := e
 rw [e]
 have z1 : (leA X.pc 4).size = 4 := leA_size _ _
 have z2 : (regG X.x 32 0 ⟨#[]⟩).size = 128 := by rw [regG_size]; rfl
 apply ByteArray.ext
 apply Array.toList_inj.1
 rw [ByteArray.data_extract, Array.toList_extract, List.extract_eq_take_drop]
 simp only [ByteArray.data_append, Array.toList_append]
 have l1 : (leA X.pc 4).data.toList.length = 4 := z1
 have l2 : (regG X.x 32 0 ⟨#[]⟩).data.toList.length = 128 := z2
 rw [List.drop_append_of_le_length (by omega), List.drop_eq_nil_of_le (by omega), List.nil_append, List.take_append_of_le_length (by omega), List.take_of_length_le (by omega)]
structure Trp (X' : XS) (f g : Fc) (k : Int) (c : Nat) (s : Bool) : Prop where
 hk : k = 1 \/ k = 2
 c32 : c < 32
 dg : ∃ DG : Nat, DG < 4294967296 /\ (k = 2 -> f.mideleg = DG) /\ (k = 1 -> f.medeleg = DG) /\ (!(f.mode == 3) && bitN DG c) = s
 lt : ¬ g.mode < f.mode
 g1 : (g.mode == 1) = s
 rg : g.regs = f.regs
 v : ∃ V : Nat, V < 4294967296 /\ (xcsrE X' (bif s then 261 else 773)).1 = V /\ g.pc = ((if k = 2 /\ V % 2 = 1 then (wout V 3 + 4 * c) % 4294967296 else wout V 3 : Nat) : Int)
 ca : (xcsrE X' (bif s then 322 else 834)).1 = c + (if k = 2 then 2147483648 else 0)
 ep : (((xcsrE X' (bif s then 321 else 833)).1 : Nat) : Int) = f.pc
 sS : s = true -> bits .and .i64 (g.status / 256) 1 = f.mode /\ bits .and .i64 (g.status / 2) 1 = 0 /\ bits .and .i64 (g.status / 32) 1 = bits .and .i64 (f.status / 2) 1 /\ bits .andNot .i64 (bits .xor .i64 g.status f.status) 290 = 0
 sM : s = false -> bits .and .i64 (g.status / 2048) 3 = f.mode /\ bits .and .i64 (g.status / 8) 1 = 0 /\ bits .and .i64 (g.status / 128) 1 = bits .and .i64 (f.status / 8) 1 /\ bits .andNot .i64 (bits .xor .i64 g.status f.status) 6280 = 0
theorem hdl_k (V c : Nat) (k : Int) (hk : k = 1 \/ k = 2) (hc : c < 32) (hV : V < 4294967296) : xhdlD V (c + (if k = 2 then 2147483648 else 0)) = if k = 2 /\ V % 2 = 1 then (wout V 3 + 4 * c) % 4294967296 else wout V 3 := by
 unfold xhdlD
 rw [Nat.and_one_is_mod]
 by_cases h2 : k = 2
 . rw [if_pos h2]
   by_cases h1 : V % 2 = 1
   . rw [if_pos ⟨by omega, by omega⟩, if_pos ⟨h2, h1⟩, show c + 2147483648 - 2147483648 = c by omega]
   . rw [if_neg (by omega), if_neg (by omega)]
 . rw [if_neg h2, if_neg (by omega), if_neg (fun q => h2 q.1)]
theorem and_3v {x y : Int} {v : Nat} (hx : x = (v : Nat)) (hy : y = 3) (hv : v < 4294967296) : bits .and .i64 x y = ((v % 4 : Nat) : Int) := by
 rw [andE hx (m := 3) hy hv (by decide), show v &&& 3 = v % 4 from Nat.and_two_pow_sub_one_eq_mod v 2]
theorem trp_core {X Y X' : XS} (hX : XInv X) (hX' : XInv X') (em : Y.mode = X.mode) (ec : Y.c = X.c) (ex : Y.x = X.x) (ep : Y.pc = X.pc) (k : Int) (hk : k = 1 \/ k = 2) (c t h DG : Nat) (hc : c < 32) (hD : DG < 4294967296) {f g : Fc} (fx : FcX X f) (gx : FcX X' g) (d2 : k = 2 -> f.mideleg = DG) (d1 : k = 1 -> f.medeleg = DG)
 (e : X' = cntX (if dlgB Y DG c = true then tsX Y (c + (if k = 2 then 2147483648 else 0)) t else tmX Y (c + (if k = 2 then 2147483648 else 0)) t) false h) : Trp X' f g k c (dlgB Y DG c) := by
 have hO := hX.ok
 have m := hO.mode
 have fm := fx.mode
 have fs : f.status = ((X.c.mstatus : Nat) : Int) := fx.status
 have gs : g.status = ((X'.c.mstatus : Nat) : Int) := gx.status
 have gl := hX'.ok.mstatus
 have rgs : X'.x = X.x -> g.regs = f.regs := fun q => by rw [gx.regs, fx.regs, regs_of, regs_of, q]
 obtain ⟨C, hC⟩ := zn1 (c + (if k = 2 then 2147483648 else 0))
 have HK := hdl_k
 have s0 : (!(f.mode == 3) && bitN DG c) = dlgB Y DG c := by
  unfold dlgB
  rw [em]
  have q : (f.mode == 3) = decide (X.mode = 3) := by rw [fm, Bool.eq_iff_iff]; simp; omega
  rw [q]
  congr 1
  by_cases q3 : X.mode = 3 <;> simp [q3]
 cases hs : dlgB Y DG c
 . rw [hs, if_neg (by decide)] at e
   have e2 : X'.mode = 3 /\ X'.pc = xhdlD Y.c.mtvec (c + (if k = 2 then 2147483648 else 0)) /\ X'.c.mtvec = Y.c.mtvec /\ X'.c.mcause = c + (if k = 2 then 2147483648 else 0) /\ X'.c.mepc = Y.pc /\ X'.c.mstatus = xmtrD Y.c.mstatus Y.mode /\ X'.x = Y.x := by rw [e]; exact ⟨rfl, rfl, rfl, rfl, rfl, rfl, rfl⟩
   obtain ⟨e3, e4, e5, e6, e7, e8, e9⟩ := e2
   have gm := gx.mode
   rw [e3] at gm
   rw [ec, em] at e8
   have tb := fun i => mtr_tb X.c.mstatus X.mode i (by omega)
   rw [<- e8] at tb
   refine ⟨hk, hc, ⟨DG, hD, d2, d1, by rw [s0, hs]⟩, by omega, by rw [gm]; rfl, rgs (by rw [e9, ex]), ⟨X.c.mtvec, hO.mtvec, ?_, ?_⟩, e6, ?_, (fun q => by cases q), fun _ => ⟨?_, ?_, ?_, ?_⟩⟩
   . show X'.c.mtvec = _; rw [e5, ec]
   . rw [gx.pc, e4, ec, HK _ _ _ hk hc hO.mtvec]
   . show ((X'.c.mepc : Nat) : Int) = _; rw [e7, ep, fx.pc]
   . rw [and_3v (v := X'.c.mstatus / 2048) (by rw [gs]; rfl) rfl (by omega), fm]
     congr 1
     apply Nat.eq_of_testBit_eq
     intro i
     rw [show (4 : Nat) = 2 ^ 2 from rfl, show (2048 : Nat) = 2 ^ 11 from rfl, Nat.testBit_mod_two_pow, Nat.testBit_div_two_pow, tb]
     by_cases hi : i < 2
     . rw [if_neg (by omega), if_pos (by omega), show i + 11 - 11 = i by omega]; simp [hi]
     . simp [hi]
       apply Nat.testBit_lt_two_pow
       exact Nat.lt_of_lt_of_le (show X.mode < 2 ^ 2 by omega) (Nat.pow_le_pow_right (by decide) (by omega))
   . rw [bitV 3 gl (by rw [gs]; rfl) rfl, tb, if_pos rfl]; rfl
   . rw [bitV 7 gl (by rw [gs]; rfl) rfl, bitV 3 hO.mstatus (by rw [fs]; rfl) rfl, tb]; rfl
   . refine xor0 gs fs (M := 6280) rfl gl hO.mstatus (by decide) (fun i hi hM => ?_)
     rw [tb]
     by_cases i3 : i = 3
     . subst i3; exact absurd hM (by decide)
     by_cases i11 : i = 11 \/ i = 12
     . rcases i11 with rfl | rfl <;> exact absurd hM (by decide)
     by_cases i7 : i = 7
     . subst i7; exact absurd hM (by decide)
     rw [if_neg i3, if_neg i11, if_neg i7]
 . rw [hs, if_pos rfl] at e
   have h3 := dlg_mode hs
   rw [em] at h3
   have e2 : X'.mode = 1 /\ X'.pc = xhdlD Y.c.stvec (c + (if k = 2 then 2147483648 else 0)) /\ X'.c.stvec = Y.c.stvec /\ X'.c.scause = c + (if k = 2 then 2147483648 else 0) /\ X'.c.sepc = Y.pc /\ X'.c.mstatus = xstrD Y.c.mstatus Y.mode /\ X'.x = Y.x := by rw [e]; exact ⟨rfl, rfl, rfl, rfl, rfl, rfl, rfl⟩
   obtain ⟨e3, e4, e5, e6, e7, e8, e9⟩ := e2
   have gm := gx.mode
   rw [e3] at gm
   rw [ec, em] at e8
   have tb := fun i => str_tb X.c.mstatus X.mode i
   rw [<- e8] at tb
   refine ⟨hk, hc, ⟨DG, hD, d2, d1, by rw [s0, hs]⟩, by omega, by rw [gm]; rfl, rgs (by rw [e9, ex]), ⟨X.c.stvec, hO.stvec, ?_, ?_⟩, e6, ?_, fun _ => ⟨?_, ?_, ?_, ?_⟩, fun q => by cases q⟩
   . show X'.c.stvec = _; rw [e5, ec]
   . rw [gx.pc, e4, ec, HK _ _ _ hk hc hO.stvec]
   . show ((X'.c.sepc : Nat) : Int) = _; rw [e7, ep, fx.pc]
   . rw [bitV 8 gl (by rw [gs]; rfl) rfl, tb, if_neg (by decide), if_pos rfl, fm]
     rcases m with q | q | q
     . rw [q]; rfl
     . rw [q]; rfl
     . exact absurd q h3
   . rw [bitV 1 gl (by rw [gs]; rfl) rfl, tb, if_pos rfl]; rfl
   . rw [bitV 5 gl (by rw [gs]; rfl) rfl, bitV 1 hO.mstatus (by rw [fs]; rfl) rfl, tb]; rfl
   . refine xor0 gs fs (M := 290) rfl gl hO.mstatus (by decide) (fun i hi hM => ?_)
     rw [tb]
     by_cases i1 : i = 1
     . subst i1; exact absurd hM (by decide)
     by_cases i8 : i = 8
     . subst i8; exact absurd hM (by decide)
     by_cases i5 : i = 5
     . subst i5; exact absurd hM (by decide)
     rw [if_neg i1, if_neg i8, if_neg i5]
theorem trp_of {X : XS} (hX : XInv X) {f g : Fc} (fx : FcX X f) (gx : FcX (stepX X).2 g) (h : (stepX X).1.1 = 1 \/ (stepX X).1.1 = 2) : ∃ (c : Nat) (s : Bool), (stepX X).1.2 = c /\ Trp (stepX X).2 f g (stepX X).1.1 c s := by
 have hX' := step_inv hX
 rcases step_is hX with ⟨e, _, _⟩ | ⟨c, hc, e, e'⟩ | ⟨_, _, e, _⟩ | ⟨_, c, hc, he, e, e'⟩
 . exact zq408
 . have hin := int_in X
   rw [e]
   refine ⟨c, _, rfl, trp_core (Y := wakX X) hX hX' rfl rfl rfl rfl 2 (.inr rfl) c 0 X.c.minh X.c.mideleg (by omega) hX.ok.mideleg fx gx (fun _ => fx.mideleg) (fun q => absurd q (by decide)) ?_⟩
   rw [e']
   rfl
 . exact zq408
 . obtain ⟨B, hB⟩ := ins_exc (wakX X) (by rw [he]; omega)
   rw [e]
   rw [hB] at e'
   refine ⟨c, _, rfl, trp_core (Y := (wakX X).withB B) hX hX' rfl rfl rfl rfl 1 (.inl rfl) c (insX (wakX X)).1.2.2 X.c.minh X.c.medeleg (by omega) hX.ok.medeleg fx gx (fun q => absurd q (by decide)) (fun _ => fx.medeleg) ?_⟩
   rw [e']
   rfl
theorem at_ret' {X : XS} {I : Ins} (ha : AtF X I) (h : (insX (wakX X)).1.2.1 = -1) : (insX (wakX X)).1.1 = niOf I /\ ∃ v, (croX (wakX X) (niOf I) v).1.1 = -1 /\ (insX (wakX X)).2 = { (croX (wakX X) (niOf I) v).2 with pc := npcD (wakX X) (niOf I) } := by
 obtain ⟨a1, a2, a3⟩ := ha
 obtain ⟨_, _, r3, r4⟩ := ins_ret (wakX X) h
 have e1 : fetchD (wakX X).b (xC (wakX X)) (wakX X).pc = fetchD X.b (xC X) X.pc := rfl
 rw [e1, a2, a3] at r3 r4
 have e2 : (wakX X).withB X.b = wakX X := rfl
 rw [e2] at r3 r4
 rw [r4]
 exact ⟨rfl, _, r3, rfl⟩
theorem at_exc {X : XS} {I : Ins} (ha : AtF X I) (c : Nat) (h : (insX (wakX X)).1.2.1 = c) : ∃ v, (croX (wakX X) (niOf I) v).1.1 = c := by
 obtain ⟨a1, a2, a3⟩ := ha
 have e1 : fetchD (wakX X).b (xC (wakX X)) (wakX X).pc = fetchD X.b (xC X) X.pc := rfl
 have e2 : (wakX X).withB X.b = wakX X := rfl
 unfold insX at h
 rw [e1, if_pos a1, a2, a3, if_pos rfl, e2] at h
 unfold insR at h
 refine ⟨(fetchD X.b (xC X) X.pc).1.w, ?_⟩
 split at h
 . exact h
 . exact h
structure Ret (X' : XS) (f g : Fc) (op : Int) : Prop where
 rg : g.regs = f.regs
 m : op = 67 -> f.mode = 3 /\ g.mode = bits .and .i64 (f.status / 2048) 3 /\ g.pc = (((xcsrE X' 833).1 : Nat) : Int) /\ bits .and .i64 (g.status / 8) 1 = bits .and .i64 (f.status / 128) 1 /\ bits .and .i64 (g.status / 128) 1 = 1 /\ bits .and .i64 (g.status / 2048) 3 = 0 /\ bits .andNot .i64 (bits .xor .i64 g.status f.status) 137352 = 0 /\ (bits .and .i64 (f.status / 2048) 3 = 3 \/ bits .and .i64 (g.status / 131072) 1 = 0)
 s : op = 68 -> f.mode ≠ 0 /\ g.mode = bits .and .i64 (f.status / 256) 1 /\ g.pc = (((xcsrE X' 321).1 : Nat) : Int) /\ bits .and .i64 (g.status / 2) 1 = bits .and .i64 (f.status / 32) 1 /\ bits .and .i64 (g.status / 32) 1 = 1 /\ bits .and .i64 (g.status / 256) 1 = 0 /\ bits .andNot .i64 (bits .xor .i64 g.status f.status) 131362 = 0 /\ bits .and .i64 (g.status / 131072) 1 = 0 /\ (f.mode = 3 \/ bits .and .i64 (f.status / 4194304) 1 = 0)
theorem ret_of {X X' : XS} (hX : XInv X) (hX' : XInv X') {f g : Fc} (fx : FcX X f) (gx : FcX X' g) {I : Ins} (ho : I.op = 67 \/ I.op = 68) {v h : Nat} (hc : (croX (wakX X) (niOf I) v).1.1 = -1) (e : X' = cntX { (croX (wakX X) (niOf I) v).2 with pc := npcD (wakX X) (niOf I) } true h) : Ret X' f g I.op := by
 obtain ⟨_, _, _, q⟩ := cro_ops _ _ _ hc
 obtain ⟨q1, q2⟩ := q ho
 have hO := hX.ok
 have fm := fx.mode
 have fs : f.status = ((X.c.mstatus : Nat) : Int) := fx.status
 have gs : g.status = ((X'.c.mstatus : Nat) : Int) := gx.status
 have gl := hX'.ok.mstatus
 rw [q2] at e
 have om : (niOf I).op = I.op := rfl
 rw [om] at q1 e
 have md := hO.mode
 unfold mdoB at q1
 have w1 : (wakX X).mode = X.mode := rfl
 have w2 : (wakX X).c = X.c := rfl
 rw [w1, w2] at q1
 have ex : X'.x = X.x := by rw [e]; unfold prvX; rcases ho with o | o <;> rw [o] <;> rfl
 refine ⟨by rw [gx.regs, fx.regs, regs_of, regs_of, ex], fun o => ?_, fun o => ?_⟩
 . rw [o] at e q1
   have e1 : X'.mode = X.c.mstatus / 2048 % 4 /\ X'.c.mstatus = xmretD X.c.mstatus /\ X'.pc = npcD (wakX X) (niOf I) /\ X'.c.mepc = X.c.mepc := by rw [e]; exact ⟨rfl, rfl, rfl, rfl⟩
   obtain ⟨e2, e3, e4, e5⟩ := e1
   have hp : npcD (wakX X) (niOf I) = X.c.mepc := by
    unfold npcD
    rw [om, o, if_neg (by omega), if_neg (by decide), if_pos rfl]
    rfl
   have m3 : X.mode = 3 := by
    by_cases q3 : X.mode = 3
    . exact q3
    . rw [if_neg q3] at q1
      split at q1
      . simp at q1
      . cases q1
   have tb := fun i => mret_tb X.c.mstatus i
   rw [<- e3] at tb
   have ta := mretA_tb X.c.mstatus
   have f3 : bits .and .i64 (f.status / 2048) 3 = ((X.c.mstatus / 2048 % 4 : Nat) : Int) := and_3v (by rw [fs]; rfl) rfl (by have := hO.mstatus; omega)
   refine ⟨by omega, by rw [f3, gx.mode, e2], ?_, ?_, ?_, ?_, ?_, ?_⟩
   . rw [gx.pc, e4, hp]; show _ = ((X'.c.mepc : Nat) : Int); rw [e5]
   . rw [bitV 3 gl (by rw [gs]; rfl) rfl, bitV 7 hO.mstatus (by rw [fs]; rfl) rfl, tb, if_neg (by decide), if_neg (by decide), if_pos rfl, ta, if_neg (by omega)]
   . rw [bitV 7 gl (by rw [gs]; rfl) rfl, tb, if_pos rfl]; rfl
   . rw [and_3v (v := X'.c.mstatus / 2048) (by rw [gs]; rfl) rfl (by omega)]
     have : X'.c.mstatus / 2048 % 4 = 0 := by
      apply Nat.eq_of_testBit_eq
      intro i
      rw [show (4 : Nat) = 2 ^ 2 from rfl, show (2048 : Nat) = 2 ^ 11 from rfl, Nat.testBit_mod_two_pow, Nat.testBit_div_two_pow, tb, Nat.zero_testBit]
      by_cases hi : i < 2
      . rw [if_neg (by omega), if_pos (by omega), Bool.and_false]
      . simp [hi]
     rw [this]; rfl
   . refine xor0 gs fs (M := 137352) rfl gl hO.mstatus (by decide) (fun i hi hM => ?_)
     rw [tb]
     by_cases i7 : i = 7
     . subst i7; exact absurd hM (by decide)
     by_cases i11 : i = 11 \/ i = 12
     . rcases i11 with rfl | rfl <;> exact absurd hM (by decide)
     by_cases i3 : i = 3
     . subst i3; exact absurd hM (by decide)
     rw [if_neg i7, if_neg i11, if_neg i3, ta]
     by_cases i17 : i = 17
     . subst i17; exact absurd hM (by decide)
     rw [if_neg (fun q => i17 q.1)]
   . by_cases p3 : X.c.mstatus / 2048 % 4 = 3
     . left; rw [f3, p3]; rfl
     . right
       rw [bitV 17 gl (by rw [gs]; rfl) rfl, tb, if_neg (by decide), if_neg (by decide), if_neg (by decide), ta, if_pos ⟨rfl, p3⟩]; rfl
 . rw [o] at e q1
   have e1 : X'.mode = X.c.mstatus / 256 % 2 /\ X'.c.mstatus = xsretD X.c.mstatus /\ X'.pc = npcD (wakX X) (niOf I) /\ X'.c.sepc = X.c.sepc := by rw [e]; exact ⟨rfl, rfl, rfl, rfl⟩
   obtain ⟨e2, e3, e4, e5⟩ := e1
   have hp : npcD (wakX X) (niOf I) = X.c.sepc := by
    unfold npcD
    rw [om, o, if_neg (by omega), if_neg (by decide), if_neg (by decide), if_pos rfl]
    rfl
   have tb := fun i => sret_tb X.c.mstatus i
   rw [<- e3] at tb
   have hm : X.mode ≠ 0 /\ (X.mode = 3 \/ X.c.mstatus.testBit 22 = false) := by
    by_cases q3 : X.mode = 3
    . exact ⟨by omega, .inl q3⟩
    . rw [if_neg q3] at q1
      split at q1
      . next q4 =>
        refine ⟨by omega, .inr ?_⟩
        have q5 : (!bitN X.c.mstatus 22) = true := by simpa using q1
        rw [bitN_tb] at q5
        simpa using q5
      . cases q1
   refine ⟨by omega, ?_, ?_, ?_, ?_, ?_, ?_, ?_, ?_⟩
   . rw [bitV 8 hO.mstatus (by rw [fs]; rfl) rfl, gx.mode, e2, Nat.testBit_eq_decide_div_mod_eq]
     have : X.c.mstatus / 2 ^ 8 % 2 < 2 := Nat.mod_lt _ (by decide)
     by_cases q : X.c.mstatus / 2 ^ 8 % 2 = 1
     . rw [show X.c.mstatus / 256 % 2 = 1 from q]; simp [q]
     . have q0 : X.c.mstatus / 2 ^ 8 % 2 = 0 := by omega
       rw [show X.c.mstatus / 256 % 2 = 0 from q0]; simp [q0]
   . rw [gx.pc, e4, hp]; show _ = ((X'.c.sepc : Nat) : Int); rw [e5]
   . rw [bitV 1 gl (by rw [gs]; rfl) rfl, bitV 5 hO.mstatus (by rw [fs]; rfl) rfl, tb, if_neg (by decide), if_neg (by decide), if_pos rfl]
   . rw [bitV 5 gl (by rw [gs]; rfl) rfl, tb, if_pos rfl]; rfl
   . rw [bitV 8 gl (by rw [gs]; rfl) rfl, tb, if_neg (by decide), if_pos (.inl rfl)]; rfl
   . refine xor0 gs fs (M := 131362) rfl gl hO.mstatus (by decide) (fun i hi hM => ?_)
     rw [tb]
     by_cases i5 : i = 5
     . subst i5; exact absurd hM (by decide)
     by_cases i8 : i = 8 \/ i = 17
     . rcases i8 with rfl | rfl <;> exact absurd hM (by decide)
     by_cases i1 : i = 1
     . subst i1; exact absurd hM (by decide)
     rw [if_neg i5, if_neg i8, if_neg i1]
   . rw [bitV 17 gl (by rw [gs]; rfl) rfl, tb, if_neg (by decide), if_pos (.inr rfl)]; rfl
   . rcases hm.2 with q | q
     . left; omega
     . right; rw [bitV 22 hO.mstatus (by rw [fs]; rfl) rfl, q]; rfl
section
attribute [local go_sem ↓] Go.wp_at_zero Go.wp_at_succ
def Su (w0 : World) (fb gb : Nat) (f g : Fc) (mb rb : Nat) (X : XS) (w : World) : Prop := BoxF w fb f.l /\ BoxF w gb g.l /\ XAt w mb rb X /\ Kept [] w0 w
theorem Su.kept {w0 : World} {fb gb : Nat} {f g : Fc} {mb rb : Nat} {X : XS} {w w' : World} (h : Su w0 fb gb f g mb rb X w) (hk : Kept [] w w') : Su w0 fb gb f g mb rb X w' := ⟨h.1.kept hk, h.2.1.kept hk, h.2.2.1.kept hk, h.2.2.2.trans hk⟩
theorem Su.drewN {w0 : World} {fb gb : Nat} {f g : Fc} {mb rb : Nat} {X : XS} {w : World} (h : Su w0 fb gb f g mb rb X w) (n : Nat) : Su w0 fb gb f g mb rb X (w.drewN n) := h.kept ((Kept.refl [] w).drewN n)
theorem andE_big (v : Nat) (hv : v < 9223372036854775808) : bits .and .i64 (v : Int) 4294967295 = ((v % 4294967296 : Nat) : Int) := by
 have h1 : bits .and .i64 (v : Int) 4294967295 = ((v &&& 4294967295 : Nat) : Int) := b_and v 4294967295 hv (by decide)
 rw [h1, show v &&& 4294967295 = v % 4294967296 from Nat.and_two_pow_sub_one_eq_mod v 32]
def Sv (w0 : World) (fb gb : Nat) (f g : Fc) (mb rb : Nat) (X : XS) (db : Nat) (k c : Int) (w : World) : Prop := Su w0 fb gb f g mb rb X w /\ BoxF w db [.int .i64 k, .int .i64 c]
theorem Sv.kept {w0 : World} {fb gb : Nat} {f g : Fc} {mb rb : Nat} {X : XS} {db : Nat} {k c : Int} {w w' : World} (h : Sv w0 fb gb f g mb rb X db k c w) (hk : Kept [] w w') : Sv w0 fb gb f g mb rb X db k c w' := ⟨h.1.kept hk, h.2.kept hk⟩
theorem Sv.drewN {w0 : World} {fb gb : Nat} {f g : Fc} {mb rb : Nat} {X : XS} {db : Nat} {k c : Int} {w : World} (h : Sv w0 fb gb f g mb rb X db k c w) (n : Nat) : Sv w0 fb gb f g mb rb X db k c (w.drewN n) := h.kept ((Kept.refl [] w).drewN n)
theorem str_eq {a b : ByteArray} (h : a = b) : (a.toList == b.toList) = true := by subst h; simp
set_option maxRecDepth 100000 in
theorem k_trappedS (mb rb fb gb : Nat) (X : XS) (hX : XOk X) (f g : Fc) (k : Int) (c : Nat) (T : Trp X f g k c true) (w : World) (hs : Hid (Su w fb gb f g mb rb X w)) : CK 57 #[.pointer (some ⟨mb, 0, none⟩), .pointer (some ⟨fb, 0, none⟩), .pointer (some ⟨gb, 0, none⟩), .agg #[.int .i64 k, .int .i64 (c : Int)]] (.bool true) w := by
 obtain ⟨DG, hDG, d2, d1, ds⟩ := T.dg
 obtain ⟨V, hV, ev, epc⟩ := T.v
 have c32 := T.c32
 obtain ⟨CC, hCC⟩ := zn2 (c + (if k = 2 then 2147483648 else 0) : Nat)
 have eca := T.ca
 rw [hCC] at eca
 have C1 := hide1 (fun W (hW : Hid (XAt W mb rb X)) => k_csrV mb rb X hX 261 V ev W hW)
 have C2 := hide1 (fun W (hW : Hid (XAt W mb rb X)) => k_csrV mb rb X hX 322 CC eca W hW)
 obtain ⟨EP, hEP⟩ := zn2 ((xcsrE X 321).1 : Nat)
 have C3 := hide1 (fun W (hW : Hid (XAt W mb rb X)) => k_csrV mb rb X hX 321 EP hEP W hW)
 have ⟨p1, p1'⟩ := beqT (show ((EP : Nat) : Int) = f.pc by rw [<- hEP]; exact T.ep)
 obtain ⟨TG, hTG⟩ := zn2 ((if k = 2 /\ V % 2 = 1 then (wout V 3 + 4 * c) % 4294967296 else wout V 3) : Nat)
 rw [hTG] at epc
 have ⟨t1, t1'⟩ := beqT epc
 have E0 : bits .andNot .i64 (V : Int) 3 = ((wout V 3 : Nat) : Int) := b_andn V 3 (by omega) (by decide)
 have EV : bits .and .i64 (V : Int) 1 = ((V % 2 : Nat) : Int) := zq141
 have w3 : wout V 3 <= V := wout_le _ _
 obtain ⟨T0, hT0⟩ := zn2 (wout V 3 : Nat)
 rw [hT0] at E0 hTG w3
 have EM : bits .and .i64 ((T0 : Int) + 4 * (c : Int)) 4294967295 = (((T0 + 4 * c) % 4294967296 : Nat) : Int) := by
  rw [show (T0 : Int) + 4 * (c : Int) = ((T0 + 4 * c : Nat) : Int) by omega, andE_big _ (by omega)]
 have HM : Hid (∀ m : Nat, m = T0 + 4 * c -> bits .and .i64 ((T0 : Int) + 4 * (c : Int)) 4294967295 = ((m % 4294967296 : Nat) : Int)) := hide1 (fun m e => by rw [e]; exact EM)
 have lt' : decide (g.mode < f.mode) = false := by simp; exact Int.not_lt.1 T.lt
 have g1 := T.g1
 have g1' : (g.mode != 1) = !true := by rw [bne, g1]
 have rg := str_eq T.rg
 have rg2 := str_eq T.rg.symm
 have HK := hide1 T.hk
 have D2 := hide1 d2
 have D1 := hide1 d1
 have DS := hide1 ds
 have HC := hide1 hCC
 have HT := hide1 hTG
 have TS := hide1 (T.sS rfl)
 have w0' : T0 < 4294967296 := by omega
 clear T ev eca hEP epc hCC hTG d1 d2 ds EM hX hT0 hV w3
 obtain ⟨db, hdb⟩ := zn1 (w.heap.size)
 have s0 : Hid (Sv w fb gb f g mb rb X db k c (w.alloc (.cells #[.int .i64 k, .int .i64 (c : Int)] 45))) := zq142
 go_enter func57, ntmps57
 go_upto_region 1 with fail
 rw [<- hdb]
 clear hs
 obtain ⟨W, hW⟩ := zn1 (w.alloc (.cells #[.int .i64 k, .int .i64 (c : Int)] 45))
 rw [<- hW] at s0 |-
 clear hW hdb
 have f5 := s0.out.1.1.cell 5 _ rfl
 have f6 := s0.out.1.1.cell 6 _ rfl
 have d0 := s0.out.2.cell 0 _ rfl
 have d1 := s0.out.2.cell 1 _ rfl
 have fl := s0.out.1.1.lt
 have gl := s0.out.1.2.1.lt
 have dl := s0.out.2.lt
 go_upto_if 26 with fail
 go_cut [9, 10] (fun p0 p1 wx => (p0 = .int .i64 (DG : Int) /\ p1 = .int .i64 (CC : Int)) /\ wx = W)
 case first =>
  exact zq410
 case rest =>
 obtain ⟨⟨rfl, rfl⟩, hwx⟩ := hcut
 rw [hwx]
 clear hwx f5 f6 d0
 have HA := hide1 (k_hasT DG c c32 hDG W)
 go_upto_region 7 with ((go_at_call 105; refine HA.out.mono ?_; rintro o wq ⟨rfl, hwq⟩; rw [hwq]; clear hwq wq))
 clear HA
 have f0 := s0.out.1.1.cell 0 _ rfl
 obtain ⟨dn, hdn⟩ := zn2 (bitN DG c)
 rw [hdn] at DS |-
 clear hdn hDG
 go_cut [12] (fun p0 wx => p0 = .bool true /\ wx = W)
 case first =>
  exact zq411
 case rest =>
 obtain ⟨rfl, hwx⟩ := hcut
 rw [hwx]
 clear hwx d1
 have f14 := s0.out.1.1.cell 14 _ rfl
 have g0 := s0.out.1.2.1.cell 0 _ rfl
 have g14 := s0.out.1.2.1.cell 14 _ rfl
 go_upto_region 8 with fail
 go_cut [73] (fun p0 wx => p0 = .bool false /\ Hid (Sv w fb gb f g mb rb X db k c wx))
 case first =>
  exact zq412
 case rest =>
 obtain ⟨rfl, s4⟩ := hcut
 clear s0 f0 f14 g0 g14 fl gl dl lt' g1 g1' rg rg2
 go_upto_if 74 with fail
 go_cut [13] (fun p0 wx => p0 = .int .i64 261 /\ Hid (Sv w fb gb f g mb rb X db k c wx))
 case first =>
  exact zq413
 case rest =>
 obtain ⟨rfl, s5⟩ := hcut
 clear s4
 go_wp2_with fail
 refine (C1.out _ (hide1 s5.out.1.2.2.1)).mono ?_
 rintro o w6 ⟨rfl, hk⟩
 have s6 := hide1 (s5.out.kept hk)
 clear hk s5 C1
 have d0 := s6.out.2.cell 0 _ rfl
 have d1 := s6.out.2.cell 1 _ rfl
 have dl := s6.out.2.lt
 go_upto_region 15 with fail
 obtain ⟨bi, hbi⟩ := zn2 ((k == 2 && ((V % 2 : Nat) : Int) == 1))
 go_cut [87] (fun p0 wx => p0 = .bool bi /\ wx = w6)
 case first =>
  exact zq414
 case rest =>
 obtain ⟨rfl, hwx⟩ := hcut
 rw [hwx]
 clear hwx
 have HB : Hid (bi = true ↔ (k = 2 /\ V % 2 = 1)) := hide1 (by rw [<- hbi]; simp; omega)
 clear hbi EV
 go_upto_if 87 with fail
 go_cut [15] (fun p0 wx => p0 = .int .i64 (TG : Int) /\ wx = w6)
 case first =>
  exact zq415
 case rest =>
 obtain ⟨rfl, hwx⟩ := hcut
 rw [hwx]
 clear hwx d0 d1 dl E0 HB HT HM
 go_wp2_with fail
 refine (C2.out _ (hide1 s6.out.1.2.2.1)).mono ?_
 rintro o w9 ⟨rfl, hk⟩
 have s9 := hide1 (s6.out.kept hk)
 clear hk s6 C2
 go_wp2_with fail
 refine (C3.out _ (hide1 s9.out.1.2.2.1)).mono ?_
 rintro o w10 ⟨rfl, hk⟩
 have s10 := hide1 (s9.out.kept hk)
 clear hk s9 C3
 have f1 := s10.out.1.1.cell 1 _ rfl
 have g1 := s10.out.1.2.1.cell 1 _ rfl
 have fl := s10.out.1.1.lt
 have gl := s10.out.1.2.1.lt
 go_upto_region 19 with fail
 go_cut [122] (fun p0 wx => p0 = .bool false /\ wx = w10)
 case first =>
  exact zq416
 case rest =>
 obtain ⟨rfl, hwx⟩ := hcut
 rw [hwx]
 clear hwx f1 g1 p1 p1' t1 t1'
 have f0 := s10.out.1.1.cell 0 _ rfl
 have f2 := s10.out.1.1.cell 2 _ rfl
 have g2 := s10.out.1.2.1.cell 2 _ rfl
 have ⟨q1, q1'⟩ := beqT TS.out.1
 have ⟨q2, q2'⟩ := beqT TS.out.2.1
 have ⟨q3, q3'⟩ := beqT TS.out.2.2.1
 have ⟨q4, q4'⟩ := beqT TS.out.2.2.2
 clear TS
 go_upto_region 22 with fail
 exact zq409
set_option maxRecDepth 100000 in
theorem k_trappedM (mb rb fb gb : Nat) (X : XS) (hX : XOk X) (f g : Fc) (k : Int) (c : Nat) (T : Trp X f g k c false) (w : World) (hs : Hid (Su w fb gb f g mb rb X w)) : CK 57 #[.pointer (some ⟨mb, 0, none⟩), .pointer (some ⟨fb, 0, none⟩), .pointer (some ⟨gb, 0, none⟩), .agg #[.int .i64 k, .int .i64 (c : Int)]] (.bool true) w := by
 obtain ⟨DG, hDG, d2, d1, ds⟩ := T.dg
 obtain ⟨V, hV, ev, epc⟩ := T.v
 have c32 := T.c32
 obtain ⟨CC, hCC⟩ := zn2 (c + (if k = 2 then 2147483648 else 0) : Nat)
 have eca := T.ca
 rw [hCC] at eca
 have C1 := hide1 (fun W (hW : Hid (XAt W mb rb X)) => k_csrV mb rb X hX 773 V ev W hW)
 have C2 := hide1 (fun W (hW : Hid (XAt W mb rb X)) => k_csrV mb rb X hX 834 CC eca W hW)
 obtain ⟨EP, hEP⟩ := zn2 ((xcsrE X 833).1 : Nat)
 have C3 := hide1 (fun W (hW : Hid (XAt W mb rb X)) => k_csrV mb rb X hX 833 EP hEP W hW)
 have ⟨p1, p1'⟩ := beqT (show ((EP : Nat) : Int) = f.pc by rw [<- hEP]; exact T.ep)
 obtain ⟨TG, hTG⟩ := zn2 ((if k = 2 /\ V % 2 = 1 then (wout V 3 + 4 * c) % 4294967296 else wout V 3) : Nat)
 rw [hTG] at epc
 have ⟨t1, t1'⟩ := beqT epc
 have E0 : bits .andNot .i64 (V : Int) 3 = ((wout V 3 : Nat) : Int) := b_andn V 3 (by omega) (by decide)
 have EV : bits .and .i64 (V : Int) 1 = ((V % 2 : Nat) : Int) := zq141
 have w3 : wout V 3 <= V := wout_le _ _
 obtain ⟨T0, hT0⟩ := zn2 (wout V 3 : Nat)
 rw [hT0] at E0 hTG w3
 have EM : bits .and .i64 ((T0 : Int) + 4 * (c : Int)) 4294967295 = (((T0 + 4 * c) % 4294967296 : Nat) : Int) := by
  rw [show (T0 : Int) + 4 * (c : Int) = ((T0 + 4 * c : Nat) : Int) by omega, andE_big _ (by omega)]
 have HM : Hid (∀ m : Nat, m = T0 + 4 * c -> bits .and .i64 ((T0 : Int) + 4 * (c : Int)) 4294967295 = ((m % 4294967296 : Nat) : Int)) := hide1 (fun m e => by rw [e]; exact EM)
 have lt' : decide (g.mode < f.mode) = false := by simp; exact Int.not_lt.1 T.lt
 have g1 := T.g1
 have g1' : (g.mode != 1) = !false := by rw [bne, g1]
 have rg := str_eq T.rg
 have rg2 := str_eq T.rg.symm
 have HK := hide1 T.hk
 have D2 := hide1 d2
 have D1 := hide1 d1
 have DS := hide1 ds
 have HC := hide1 hCC
 have HT := hide1 hTG
 have TS := hide1 (T.sM rfl)
 have w0' : T0 < 4294967296 := by omega
 clear T ev eca hEP epc hCC hTG d1 d2 ds EM hX hT0 hV w3
 obtain ⟨db, hdb⟩ := zn1 (w.heap.size)
 have s0 : Hid (Sv w fb gb f g mb rb X db k c (w.alloc (.cells #[.int .i64 k, .int .i64 (c : Int)] 45))) := zq142
 go_enter func57, ntmps57
 go_upto_region 1 with fail
 rw [<- hdb]
 clear hs
 obtain ⟨W, hW⟩ := zn1 (w.alloc (.cells #[.int .i64 k, .int .i64 (c : Int)] 45))
 rw [<- hW] at s0 |-
 clear hW hdb
 have f5 := s0.out.1.1.cell 5 _ rfl
 have f6 := s0.out.1.1.cell 6 _ rfl
 have d0 := s0.out.2.cell 0 _ rfl
 have d1 := s0.out.2.cell 1 _ rfl
 have fl := s0.out.1.1.lt
 have gl := s0.out.1.2.1.lt
 have dl := s0.out.2.lt
 go_upto_if 26 with fail
 go_cut [9, 10] (fun p0 p1 wx => (p0 = .int .i64 (DG : Int) /\ p1 = .int .i64 (CC : Int)) /\ wx = W)
 case first =>
  exact zq410
 case rest =>
 obtain ⟨⟨rfl, rfl⟩, hwx⟩ := hcut
 rw [hwx]
 clear hwx f5 f6 d0
 have HA := hide1 (k_hasT DG c c32 hDG W)
 go_upto_region 7 with ((go_at_call 105; refine HA.out.mono ?_; rintro o wq ⟨rfl, hwq⟩; rw [hwq]; clear hwq wq))
 clear HA
 have f0 := s0.out.1.1.cell 0 _ rfl
 obtain ⟨dn, hdn⟩ := zn2 (bitN DG c)
 rw [hdn] at DS |-
 clear hdn hDG
 go_cut [12] (fun p0 wx => p0 = .bool false /\ wx = W)
 case first =>
  exact zq411
 case rest =>
 obtain ⟨rfl, hwx⟩ := hcut
 rw [hwx]
 clear hwx d1
 have f14 := s0.out.1.1.cell 14 _ rfl
 have g0 := s0.out.1.2.1.cell 0 _ rfl
 have g14 := s0.out.1.2.1.cell 14 _ rfl
 go_upto_region 8 with fail
 go_cut [73] (fun p0 wx => p0 = .bool false /\ Hid (Sv w fb gb f g mb rb X db k c wx))
 case first =>
  exact zq412
 case rest =>
 obtain ⟨rfl, s4⟩ := hcut
 clear s0 f0 f14 g0 g14 fl gl dl lt' g1 g1' rg rg2
 go_upto_if 74 with fail
 go_cut [13] (fun p0 wx => p0 = .int .i64 773 /\ Hid (Sv w fb gb f g mb rb X db k c wx))
 case first =>
  exact zq413
 case rest =>
 obtain ⟨rfl, s5⟩ := hcut
 clear s4
 go_wp2_with fail
 refine (C1.out _ (hide1 s5.out.1.2.2.1)).mono ?_
 rintro o w6 ⟨rfl, hk⟩
 have s6 := hide1 (s5.out.kept hk)
 clear hk s5 C1
 have d0 := s6.out.2.cell 0 _ rfl
 have d1 := s6.out.2.cell 1 _ rfl
 have dl := s6.out.2.lt
 go_upto_region 15 with fail
 obtain ⟨bi, hbi⟩ := zn2 ((k == 2 && ((V % 2 : Nat) : Int) == 1))
 go_cut [87] (fun p0 wx => p0 = .bool bi /\ wx = w6)
 case first =>
  exact zq414
 case rest =>
 obtain ⟨rfl, hwx⟩ := hcut
 rw [hwx]
 clear hwx
 have HB : Hid (bi = true ↔ (k = 2 /\ V % 2 = 1)) := hide1 (by rw [<- hbi]; simp; omega)
 clear hbi EV
 go_upto_if 87 with fail
 go_cut [15] (fun p0 wx => p0 = .int .i64 (TG : Int) /\ wx = w6)
 case first =>
  exact zq415
 case rest =>
 obtain ⟨rfl, hwx⟩ := hcut
 rw [hwx]
 clear hwx d0 d1 dl E0 HB HT HM
 go_wp2_with fail
 refine (C2.out _ (hide1 s6.out.1.2.2.1)).mono ?_
 rintro o w9 ⟨rfl, hk⟩
 have s9 := hide1 (s6.out.kept hk)
 clear hk s6 C2
 go_wp2_with fail
 refine (C3.out _ (hide1 s9.out.1.2.2.1)).mono ?_
 rintro o w10 ⟨rfl, hk⟩
 have s10 := hide1 (s9.out.kept hk)
 clear hk s9 C3
 have f1 := s10.out.1.1.cell 1 _ rfl
 have g1 := s10.out.1.2.1.cell 1 _ rfl
 have fl := s10.out.1.1.lt
 have gl := s10.out.1.2.1.lt
 go_upto_region 19 with fail
 go_cut [122] (fun p0 wx => p0 = .bool false /\ wx = w10)
 case first =>
  exact zq416
 case rest =>
 obtain ⟨rfl, hwx⟩ := hcut
 rw [hwx]
 clear hwx f1 g1 p1 p1' t1 t1'
 have f0 := s10.out.1.1.cell 0 _ rfl
 have f2 := s10.out.1.1.cell 2 _ rfl
 have g2 := s10.out.1.2.1.cell 2 _ rfl
 have ⟨q1, q1'⟩ := beqT TS.out.1
 have ⟨q2, q2'⟩ := beqT TS.out.2.1
 have ⟨q3, q3'⟩ := beqT TS.out.2.2.1
 have ⟨q4, q4'⟩ := beqT TS.out.2.2.2
 clear TS
 go_upto_region 23 with fail
 exact zq409
theorem k_trappedT (mb rb fb gb : Nat) (X : XS) (hX : XOk X) (f g : Fc) (k : Int) (c : Nat) (s : Bool) (T : Trp X f g k c s) (w : World) (hs : Hid (Su w fb gb f g mb rb X w)) : CK 57 #[.pointer (some ⟨mb, 0, none⟩), .pointer (some ⟨fb, 0, none⟩), .pointer (some ⟨gb, 0, none⟩), .agg #[.int .i64 k, .int .i64 (c : Int)]] (.bool true) w := by
 cases s
 . exact k_trappedM mb rb fb gb X hX f g k c T w hs
 . exact k_trappedS mb rb fb gb X hX f g k c T w hs
set_option maxRecDepth 100000 in
theorem k_returnedMT (mb rb fb gb : Nat) (X : XS) (hX : XOk X) (f g : Fc) (R : Ret X f g 67) (w : World) (hs : Hid (Su w fb gb f g mb rb X w)) : CK 59 #[.pointer (some ⟨mb, 0, none⟩), .pointer (some ⟨fb, 0, none⟩), .pointer (some ⟨gb, 0, none⟩), .int .i64 67] (.bool true) w := by
 obtain ⟨EP, hEP⟩ := zn2 ((xcsrE X 833).1 : Nat)
 have C1 := hide1 (fun W (hW : Hid (XAt W mb rb X)) => k_csrV mb rb X hX 833 EP hEP W hW)
 have rg := str_eq R.rg
 have rg2 := str_eq R.rg.symm
 obtain ⟨h1, h2, h3, h4, h5, h6, h7, h8⟩ := R.m rfl
 rw [hEP] at h3
 have ⟨a1, a1'⟩ := beqT h1
 have ⟨a2, a2'⟩ := beqT h2
 have ⟨a3, a3'⟩ := beqT h3
 have ⟨a4, a4'⟩ := beqT h4
 have ⟨a5, a5'⟩ := beqT h5
 have ⟨a6, a6'⟩ := beqT h6
 have ⟨a7, a7'⟩ := beqT h7
 have H8 := hide1 h8
 clear h1 h2 h3 h4 h5 h6 h7 h8 R hEP hX
 go_enter func59, ntmps59
 have f14 := hs.out.1.cell 14 _ rfl
 have g14 := hs.out.2.1.cell 14 _ rfl
 have fl := hs.out.1.lt
 have gl := hs.out.2.1.lt
 go_upto_region 1 with fail
 go_cut [20] (fun q wx => q = .bool false /\ Hid (Su w fb gb f g mb rb X wx))
 case first =>
  exact zq418
 case rest =>
 obtain ⟨rfl, s1⟩ := hcut
 clear hs f14 g14 fl gl rg rg2
 go_wp2_with fail
 refine (C1.out _ (hide1 s1.out.2.2.1)).mono ?_
 rintro o w2 ⟨rfl, hk⟩
 have s2 := hide1 (s1.out.kept hk)
 clear hk s1 C1
 have f0 := s2.out.1.cell 0 _ rfl
 have f2 := s2.out.1.cell 2 _ rfl
 have g0 := s2.out.2.1.cell 0 _ rfl
 have g1 := s2.out.2.1.cell 1 _ rfl
 have g2 := s2.out.2.1.cell 2 _ rfl
 have fl := s2.out.1.lt
 have gl := s2.out.2.1.lt
 go_upto_region 6 with fail
 go_cut [84] (fun q wx => q = .bool false /\ Hid (Su w fb gb f g mb rb X wx))
 case first =>
  exact zq419
 case rest =>
 obtain ⟨rfl, s3⟩ := hcut
 clear s2 f0 f2 g0 g1 g2 fl gl a1 a1' a2 a2' a3 a3' a4 a4' a5 a5' a6 a6'
 have f0 := s3.out.1.cell 0 _ rfl
 have f2 := s3.out.1.cell 2 _ rfl
 have g2 := s3.out.2.1.cell 2 _ rfl
 have fl := s3.out.1.lt
 have gl := s3.out.2.1.lt
 go_upto_region 8 with fail
 rcases beqC (bits .and .i64 (f.status / 2048) 3) 3 with ⟨qa, qb⟩ | ⟨qa, qb⟩
 . exact zq420
 exact zq417
set_option maxRecDepth 100000 in
theorem k_returnedST (mb rb fb gb : Nat) (X : XS) (hX : XOk X) (f g : Fc) (R : Ret X f g 68) (w : World) (hs : Hid (Su w fb gb f g mb rb X w)) : CK 59 #[.pointer (some ⟨mb, 0, none⟩), .pointer (some ⟨fb, 0, none⟩), .pointer (some ⟨gb, 0, none⟩), .int .i64 68] (.bool true) w := by
 obtain ⟨EP, hEP⟩ := zn2 ((xcsrE X 321).1 : Nat)
 have C1 := hide1 (fun W (hW : Hid (XAt W mb rb X)) => k_csrV mb rb X hX 321 EP hEP W hW)
 have rg := str_eq R.rg
 have rg2 := str_eq R.rg.symm
 obtain ⟨h1, h2, h3, h4, h5, h6, h7, h9, h8⟩ := R.s rfl
 rw [hEP] at h3
 have ⟨a1, a1'⟩ := beqF h1
 have ⟨a9, a9'⟩ := beqT h9
 have ⟨a2, a2'⟩ := beqT h2
 have ⟨a3, a3'⟩ := beqT h3
 have ⟨a4, a4'⟩ := beqT h4
 have ⟨a5, a5'⟩ := beqT h5
 have ⟨a6, a6'⟩ := beqT h6
 have ⟨a7, a7'⟩ := beqT h7
 have H8 := hide1 h8
 clear h1 h2 h3 h4 h5 h6 h7 h8 R hEP hX h9
 go_enter func59, ntmps59
 have f14 := hs.out.1.cell 14 _ rfl
 have g14 := hs.out.2.1.cell 14 _ rfl
 have fl := hs.out.1.lt
 have gl := hs.out.2.1.lt
 go_upto_region 1 with fail
 go_cut [20] (fun q wx => q = .bool false /\ Hid (Su w fb gb f g mb rb X wx))
 case first =>
  exact zq418
 case rest =>
 obtain ⟨rfl, s1⟩ := hcut
 clear hs f14 g14 fl gl rg rg2
 go_wp2_with fail
 refine (C1.out _ (hide1 s1.out.2.2.1)).mono ?_
 rintro o w2 ⟨rfl, hk⟩
 have s2 := hide1 (s1.out.kept hk)
 clear hk s1 C1
 have f0 := s2.out.1.cell 0 _ rfl
 have f2 := s2.out.1.cell 2 _ rfl
 have g0 := s2.out.2.1.cell 0 _ rfl
 have g1 := s2.out.2.1.cell 1 _ rfl
 have g2 := s2.out.2.1.cell 2 _ rfl
 have fl := s2.out.1.lt
 have gl := s2.out.2.1.lt
 go_upto_region 10 with fail
 go_cut [169] (fun q wx => q = .bool false /\ Hid (Su w fb gb f g mb rb X wx))
 case first =>
  exact zq419
 case rest =>
 obtain ⟨rfl, s3⟩ := hcut
 clear s2 f0 f2 g0 g1 g2 fl gl a1 a1' a2 a2' a3 a3' a4 a4' a5 a5' a6 a6'
 have f0 := s3.out.1.cell 0 _ rfl
 have f2 := s3.out.1.cell 2 _ rfl
 have g2 := s3.out.2.1.cell 2 _ rfl
 have fl := s3.out.1.lt
 have gl := s3.out.2.1.lt
 go_upto_region 12 with fail
 rcases beqC f.mode 3 with ⟨qa, qb⟩ | ⟨qa, qb⟩
 . exact zq420
 exact zq417
theorem k_returnedT (mb rb fb gb : Nat) (X : XS) (hX : XOk X) (f g : Fc) (op : Int) (ho : op = 67 \/ op = 68) (R : Ret X f g op) (w : World) (hs : Hid (Su w fb gb f g mb rb X w)) : CK 59 #[.pointer (some ⟨mb, 0, none⟩), .pointer (some ⟨fb, 0, none⟩), .pointer (some ⟨gb, 0, none⟩), .int .i64 op] (.bool true) w := by
 rcases ho with rfl | rfl
 . exact k_returnedMT mb rb fb gb X hX f g R w hs
 . exact k_returnedST mb rb fb gb X hX f g R w hs
end
theorem andM (a : Int) : bits .and .i64 a 4294967295 = a % 4294967296 := by
 have h : bits .and .i64 a 4294967295 = (((a % 18446744073709551616).toNat &&& 4294967295 : Nat) : Int) := and_any a 4294967295 (by decide)
 rw [h, show (a % 18446744073709551616).toNat &&& 4294967295 = (a % 18446744073709551616).toNat % 4294967296 from Nat.and_two_pow_sub_one_eq_mod _ 32]
 omega
def Cnt (f g : Fc) (k op : Int) : Prop := (k = 0 /\ 61 <= op /\ op <= 66) \/ (bits .and .i64 (g.cycle - f.cycle) 4294967295 = 1 - bits .and .i64 f.inhibit 1 /\ (k ≠ 0 -> bits .and .i64 (g.ret - f.ret) 4294967295 = 0) /\ (k = 0 -> bits .and .i64 (g.ret - f.ret) 4294967295 = 1 - bits .and .i64 (f.inhibit / 4) 1))
theorem cro_cnt (X : XS) (i : NI) (v : Nat) (h : ¬ (61 <= i.op /\ i.op <= 66)) : (croX X i v).2.c.cyc = X.c.cyc /\ (croX X i v).2.c.ret = X.c.ret := by
 have hs : ∀ (Y : XS) d v, (setXR Y d v).c = Y.c := by intro Y d v; unfold setXR; split <;> rfl
 unfold croX
 split
 . rw [hs]; exact ⟨rfl, rfl⟩
 split
 . exact ⟨rfl, rfl⟩
 split
 . unfold ldX ldF; split
   . rw [hs]; exact ⟨rfl, rfl⟩
   . exact ⟨rfl, rfl⟩
 split
 . unfold stX stF; split <;> exact ⟨rfl, rfl⟩
 split
 . unfold atX atF
   split
   . split
     . unfold atG lrX scX amoX
       dsimp only
       split
       . show (setXR _ _ _).c.cyc = _ /\ (setXR _ _ _).c.ret = _
         rw [hs]; exact ⟨rfl, rfl⟩
       . split
         . show (setXR _ _ _).c.cyc = _ /\ (setXR _ _ _).c.ret = _
           rw [hs]
           cases scB (X.withB (wordAtD X.b (xC X) (X.x.getD i.rs1 0) (kD i.op)).2) (wordAtD X.b (xC X) (X.x.getD i.rs1 0) (kD i.op)).1.1 <;> exact ⟨rfl, rfl⟩
         . rw [hs]; exact ⟨rfl, rfl⟩
     . exact ⟨rfl, rfl⟩
   . exact ⟨rfl, rfl⟩
 split
 . exact ⟨rfl, rfl⟩
 split
 . exact ⟨rfl, rfl⟩
 split
 . next q => exact absurd q.1 h
 split
 . unfold prvX
   repeat' split
   all_goals exact ⟨rfl, rfl⟩
 . exact ⟨rfl, rfl⟩
theorem cnt_core {X Y X' : XS} (hX : XInv X) {f g : Fc} (fx : FcX X f) (gx : FcX X' g) (r : Bool) (k op : Int) (hr : r = true ↔ k = 0) (e1 : Y.c.cyc = X.c.cyc) (e2 : Y.c.ret = X.c.ret) (e : X' = cntX Y r X.c.minh) : Cnt f g k op := by
 have c1 : f.cycle = ((X.c.cyc : Nat) : Int) := fx.cycle
 have c2 : f.ret = ((X.c.ret : Nat) : Int) := fx.ret
 have c3 : f.inhibit = ((X.c.minh : Nat) : Int) := fx.inhibit
 have d1 : g.cycle = ((X'.c.cyc : Nat) : Int) := gx.cycle
 have d2 : g.ret = ((X'.c.ret : Nat) : Int) := gx.ret
 have hO := hX.ok
 have h1 := hO.cyc
 have h2 := hO.ret
 have h3 := hO.minh
 have f1 : X'.c.cyc = if (!bitN X.c.minh 0) = true then incL X.c.cyc 1 else X.c.cyc := by rw [e, <- e1]; rfl
 have f2 : X'.c.ret = if (r && !bitN X.c.minh 2) = true then incL X.c.ret 1 else X.c.ret := by rw [e, <- e2]; rfl
 have b0 : bits .and .i64 f.inhibit 1 = ((X.c.minh.testBit 0).toNat : Nat) := bitV 0 (by omega) (by rw [c3]; simp) rfl
 have b2 : bits .and .i64 (f.inhibit / 4) 1 = ((X.c.minh.testBit 2).toNat : Nat) := bitV 2 (by omega) (by rw [c3]; rfl) rfl
 have inc : ∀ a : Nat, a < 4294967296 -> (((incL a 1 : Nat) : Int) - a) % 4294967296 = 1 := by intro a ha; unfold incL; omega
 have i0 : ∀ a : Nat, ((a : Int) - a) % 4294967296 = 0 := by intro a; omega
 right
 rw [andM, andM, b0, b2, c1, c2, d1, d2, f1, f2, bitN_tb, bitN_tb]
 refine ⟨?_, fun hk => ?_, fun hk => ?_⟩
 . cases X.c.minh.testBit 0
   . rw [if_pos (by decide), inc _ h1]; rfl
   . rw [if_neg (by decide), i0]; rfl
 . have : r = false := by cases r with | false => rfl | true => exact absurd (hr.1 rfl) hk
   rw [this, if_neg (by simp), i0]
 . have : r = true := hr.2 hk
   rw [this]
   cases X.c.minh.testBit 2
   . rw [if_pos (by decide), inc _ h2]; rfl
   . rw [if_neg (by decide), i0]; rfl
theorem cnt_of {X : XS} (hX : XInv X) {f g : Fc} (fx : FcX X f) (gx : FcX (stepX X).2 g) (op : Int) (ho : op = 61 \/ ∃ I, AtF X I /\ op = I.op) : Cnt f g (stepX X).1.1 op := by
 have ti : ∀ (Y : XS) n t, (tsX Y n t).c.cyc = Y.c.cyc /\ (tsX Y n t).c.ret = Y.c.ret /\ (tmX Y n t).c.cyc = Y.c.cyc /\ (tmX Y n t).c.ret = Y.c.ret := fun Y n t => ⟨rfl, rfl, rfl, rfl⟩
 rcases step_is hX with ⟨e, _, e'⟩ | ⟨c, hc, e, e'⟩ | ⟨_, hr, e, e'⟩ | ⟨_, c, hc, he, e, e'⟩
 . rw [e]; exact cnt_core (Y := X) hX fx gx false 3 op (by decide) rfl rfl e'
 . rw [e]
   refine cnt_core (Y := tiX (wakX X) c) hX fx gx false 2 op (by decide) ?_ ?_ e'
   . unfold tiX; split
     . exact (ti _ _ _).1
     . exact (ti _ _ _).2.2.1
   . unfold tiX; split
     . exact (ti _ _ _).2.1
     . exact (ti _ _ _).2.2.2
 . rw [e]
   rcases ho with rfl | ⟨I, ha, rfl⟩
   . left; exact ⟨rfl, by omega, by omega⟩
   . by_cases hcs : 61 <= I.op /\ I.op <= 66
     . left; exact ⟨rfl, hcs.1, hcs.2⟩
     . obtain ⟨r1, v, r2, r3⟩ := at_ret' ha hr
       have cw : cwrD (niOf I) = 0 := by
        unfold cwrD
        rw [if_neg (fun q => hcs ⟨q.1, q.2.1⟩)]
       rw [r1, cw, or_z] at e'
       have := cro_cnt (wakX X) (niOf I) v hcs
       refine cnt_core (Y := (insX (wakX X)).2) hX fx gx true 0 I.op (by decide) ?_ ?_ e'
       . rw [r3]; exact this.1
       . rw [r3]; exact this.2
 . rw [e]
   obtain ⟨B, hB⟩ := ins_exc (wakX X) (by rw [he]; omega)
   refine cnt_core (Y := teX (insX (wakX X)).2 c (insX (wakX X)).1.2.2) hX fx gx false 1 op (by decide) ?_ ?_ e'
   . rw [hB]; unfold teX; split
     . exact (ti _ _ _).1
     . exact (ti _ _ _).2.2.1
   . rw [hB]; unfold teX; split
     . exact (ti _ _ _).2.1
     . exact (ti _ _ _).2.2.2
def Sns (f : Fc) (op : Int) (c : Nat) : Prop := (c = 2 /\ (op = 0 \/ 61 <= op)) \/ (c = 3 /\ op = 41) \/ ((c : Int) = 8 + f.mode /\ op = 40 /\ (c = 8 \/ c = 9 \/ c = 11)) \/ (c = 4 /\ op = 50) \/ (c = 6 /\ 51 <= op /\ op <= 60) \/ ((c = 5 \/ c = 13) /\ ((11 <= op /\ op <= 15) \/ op = 50)) \/ ((c = 7 \/ c = 15) /\ ((16 <= op /\ op <= 18) \/ (51 <= op /\ op <= 60)))
theorem sns_of {X : XS} (hX : XInv X) {f : Fc} (fx : FcX X f) {I : Ins} (ha : AtF X I) (c : Nat) (h : (stepX X).1 = (1, (c : Int))) : Sns f I.op c := by
 have m := hX.ok.mode
 have fm := fx.mode
 have h70 : 0 <= I.op /\ I.op <= 70 := by
  by_cases q : I.op = 0
  . omega
  . have := decode_op (fetchD X.b (xC X) X.pc).1.w
    rw [ha.2.2] at this
    have := (this q).1
    have q1 : 1 <= I.op := this.1
    exact ⟨by omega, this.2.1⟩
 rcases step_is hX with ⟨e, _, _⟩ | ⟨c', _, e, _⟩ | ⟨_, _, e, _⟩ | ⟨_, c', _, he, e, _⟩
 . exact zq421
 . exact zq421
 . exact zq421
 . have hc : c' = c := by rw [e] at h; have := congrArg Prod.snd h; dsimp only at this; omega
   rw [hc] at he
   obtain ⟨v, hv⟩ := at_exc ha c he
   have q := cro_causes _ _ _ c hv
   have w1 : (wakX X).mode = X.mode := rfl
   have om : (niOf I).op = I.op := rfl
   rw [w1, om] at q
   rcases q with q | q | q | q | q | q | q
   . exact .inl ⟨q.1, by have := h70; omega⟩
   . exact .inr (.inl q)
   . exact .inr (.inr (.inl ⟨by omega, q.2, by omega⟩))
   . exact .inr (.inr (.inr (.inl q)))
   . exact .inr (.inr (.inr (.inr (.inl q))))
   . exact .inr (.inr (.inr (.inr (.inr (.inl q)))))
   . exact .inr (.inr (.inr (.inr (.inr (.inr q)))))
theorem run_of {X : XS} (hX : XInv X) {f g : Fc} (fx : FcX X f) (gx : FcX (stepX X).2 g) {I : Ins} (ha : AtF X I) (h : (stepX X).1.1 = 0) : I.op ≠ 0 /\ I.op ≠ 40 /\ I.op ≠ 41 /\ (I.op = 67 \/ I.op = 68 -> Ret (stepX X).2 f g I.op) /\ (¬ (I.op = 67 \/ I.op = 68) -> g.mode = f.mode) := by
 rcases step_is hX with ⟨e, _, _⟩ | ⟨c', _, e, _⟩ | ⟨_, hr, e, e'⟩ | ⟨_, c', _, _, e, _⟩
 . exact zq408
 . exact zq422
 . obtain ⟨r1, v, r2, r3⟩ := at_ret' ha hr
   obtain ⟨o1, o2, o3, _⟩ := cro_ops _ _ _ r2
   refine ⟨o1, o2, o3, fun ho => ?_, fun ho => ?_⟩
   . rw [r3] at e'
     exact ret_of hX (step_inv hX) fx gx ho r2 e'
   . rw [gx.mode, fx.mode, e', r3]
     have := cro_mode (wakX X) (niOf I) v (fun q => ho (.inl q)) (fun q => ho (.inr q))
     show (((croX (wakX X) (niOf I) v).2.mode : Nat) : Int) = _
     rw [this]; rfl
 . exact zq422
theorem ram_of {X : XS} (hX : XInv X) {f g : Fc} (fx : FcX X f) (gx : FcX (stepX X).2 g) (h : (stepX X).1.1 = 2 \/ (stepX X).1.1 = 3) : f.ram = g.ram := by
 rw [fx.ram, gx.ram]
 rcases step_is hX with ⟨e, _, e'⟩ | ⟨c', _, e, e'⟩ | ⟨_, _, e, _⟩ | ⟨_, c', _, _, e, _⟩
 . rw [e']; rfl
 . rw [e']
   have : (tiX (wakX X) c').b = X.b := by unfold tiX; split <;> rfl
   show _ = pkB (tiX (wakX X) c').b.ram 0 (tiX (wakX X) c').b.ram.length
   rw [this]
 . exact zq408
 . exact zq422
section
attribute [local go_sem ↓] Go.wp_at_zero Go.wp_at_succ
set_option maxRecDepth 100000 in
theorem k_countedT (gb : Nat) (g : Fc) (k : Int) (c : Int) (op : Int) (fb : Nat) (f : Fc) (z1 z2 : Nat) (hf1 : FcOk f z1) (hg1 : FcOk g z2) (H : Cnt f g k op) (w : World) (hf : Hid (BoxF w fb f.l)) (hg : Hid (BoxF w gb g.l)) : CK 56 #[.pointer (some ⟨fb, 0, none⟩), .pointer (some ⟨gb, 0, none⟩), .agg #[.int .i64 k, .int .i64 c], .int .i64 op] (.bool true) w := by
 have c8 := hf.out.cell 8 _ rfl
 have c9 := hf.out.cell 9 _ rfl
 have c11 := hf.out.cell 11 _ rfl
 have cl := hf.out.lt
 have d9 := hg.out.cell 9 _ rfl
 have d11 := hg.out.cell 11 _ rfl
 have dl := hg.out.lt
 have e1 : ¬ fb = w.heap.size := by omega
 have e2 : ¬ gb = w.heap.size := by omega
 have y1 := hf1.cycle
 have y2 := hf1.ret
 have y3 := hg1.cycle
 have y4 := hg1.ret
 have wc : IntKind.i64.wrap (g.cycle - f.cycle) = g.cycle - f.cycle := zq115
 have wr : IntKind.i64.wrap (g.ret - f.ret) = g.ret - f.ret := zq115
 clear hf1 hg1 y1 y2 y3 y4
 by_cases hcs : k = 0 /\ 61 <= op /\ op <= 66
 . have q0 : (k == 0) = true := by simp [hcs.1]
   have q1 : decide (61 <= op) = true := by simp; exact hcs.2.1
   have q2 : decide (op <= 66) = true := by simp; exact hcs.2.2
   clear H hcs
   go_enter func56, ntmps56
   exact zq245
 obtain ⟨H1, H2, H3⟩ := H.resolve_left hcs
 obtain ⟨I0, hI0, b0⟩ : ∃ I : Nat, I <= 1 /\ bits .and .i64 f.inhibit 1 = (I : Int) := ⟨_, Nat.and_le_right, and_any f.inhibit 1 (by decide)⟩
 obtain ⟨I2, hI2, b2⟩ : ∃ I : Nat, I <= 1 /\ bits .and .i64 (f.inhibit / 4) 1 = (I : Int) := ⟨_, Nat.and_le_right, and_any (f.inhibit / 4) 1 (by decide)⟩
 rw [b0] at H1
 rw [b2] at H3
 have w0 : IntKind.i64.wrap (1 - (I0 : Int)) = 1 - (I0 : Int) := zq115
 have w2 : IntKind.i64.wrap (1 - (I2 : Int)) = 1 - (I2 : Int) := zq115
 have ⟨t1, t1'⟩ := beqT H1
 by_cases hk : k = 0
 . have ⟨k0, k0'⟩ := beqT hk
   have ⟨t2, t2'⟩ := beqT (H3 hk)
   clear H1 H2 H3 H
   by_cases h61 : 61 <= op
   . have q1 : decide (61 <= op) = true := by simp; exact h61
     have q2 : decide (op <= 66) = false := by simp; omega
     exact zq423
   . have q1 : decide (61 <= op) = false := by simp; omega
     exact zq423
 . have ⟨k0, k0'⟩ := beqF hk
   have ⟨t2, t2'⟩ := beqT (H2 hk)
   clear H1 H2 H3 H hcs hk
   exact zq424
set_option maxRecDepth 100000 in
theorem k_sensibleT (x0 x1 x2 x3 x4 x5 : Int) (c : Nat) (fb : Nat) (f : Fc) (H : Sns f x0 c) (w : World) (hf : Hid (BoxF w fb f.l)) : CK 58 #[.pointer (some ⟨fb, 0, none⟩), .agg #[.int .i64 x0, .int .i64 x1, .int .i64 x2, .int .i64 x3, .int .i64 x4, .int .i64 x5], .int .i64 (c : Int)] (.bool true) w := by
 have c0 := hf.out.cell 0 _ rfl
 have cl := hf.out.lt
 have e1 : ¬ fb = w.heap.size := by omega
 rcases H with ⟨rfl, h⟩ | ⟨rfl, rfl⟩ | ⟨h, rfl, h2⟩ | ⟨rfl, rfl⟩ | ⟨rfl, h⟩ | ⟨h2, h⟩ | ⟨h2, h⟩
 . rcases h with rfl | h
   . exact zq425
   . have q1 : decide (61 <= x0) = true := by simp; exact h
     have q0 : (x0 == 0) = false := by simp; omega
     exact zq426
 . exact zq425
 . rcases h2 with rfl | rfl | rfl
   . have m : f.mode = 0 := by omega
     exact zq427
   . have m : f.mode = 1 := by omega
     exact zq427
   . have m : f.mode = 3 := by omega
     exact zq427
 . exact zq425
 . have q1 : decide (51 <= x0) = true := by simp; exact h.1
   have q2 : decide (x0 <= 60) = true := by simp; exact h.2
   exact zq426
 . rcases h with h | rfl
   . have q1 : decide (11 <= x0) = true := by simp; exact h.1
     have q2 : decide (x0 <= 15) = true := by simp; exact h.2
     exact zq428
   . exact zq429
 . rcases h with h | h
   . have q1 : decide (16 <= x0) = true := by simp; exact h.1
     have q2 : decide (x0 <= 18) = true := by simp; exact h.2
     exact zq428
   . have q1 : decide (51 <= x0) = true := by simp; exact h.1
     have q2 : decide (x0 <= 60) = true := by simp; exact h.2
     have q3 : decide (16 <= x0) = true := by simp; omega
     have q4 : decide (x0 <= 18) = false := by simp; omega
     exact zq428
theorem and_10 (v : Nat) : v &&& 10 = 0 ↔ bitN v 1 = false /\ bitN v 3 = false := by
 have h : ∀ x, x < 16 -> (x &&& 10 = 0 ↔ bitN x 1 = false /\ bitN x 3 = false) := by decide
 have e : v &&& 10 = v % 16 &&& 10 := by
  have := Nat.and_mod_two_pow (a := v) (b := 10) (n := 4)
  have l : v &&& 10 < 16 := Nat.lt_of_le_of_lt Nat.and_le_right (by decide)
  rw [Nat.mod_eq_of_lt (show v &&& 10 < 2 ^ 4 from l)] at this
  exact this
 have e1 : bitN v 1 = bitN (v % 16) 1 := by unfold bitN; rw [decide_eq_decide]; omega
 have e3 : bitN v 3 = bitN (v % 16) 3 := by unfold bitN; rw [decide_eq_decide]; omega
 rw [e, e1, e3]
 exact h _ (by omega)
theorem tst_1 (v : Nat) (hv : v < 4294967296) : bits .and .i64 (v : Int) 1 = 1 ↔ bitN v 0 = true := by
 have h1 : bits .and .i64 (v : Int) 1 = ((v &&& 1 : Nat) : Int) := b_and v 1 (by omega) (by decide)
 rw [h1, Nat.and_one_is_mod]; unfold bitN; simp; omega
theorem tst_10 (v : Nat) (hv : v < 4294967296) : bits .and .i64 (v : Int) 10 = 0 ↔ bitN v 1 = false /\ bitN v 3 = false := by
 have h1 : bits .and .i64 (v : Int) 10 = ((v &&& 10 : Nat) : Int) := b_and v 10 (by omega) (by decide)
 rw [h1, <- and_10]; omega
def Ent (w : World) (b1 b2 b3 n : Nat) (us su : Bool) (s : ByteArray) (A c : Nat) : Prop := isLf (ldS s A) -> Tru w b3 (A / 4) /\ Cov w b1 b2 n us su (ldS s A) (ldS s A / 1024) c
def Rds (w : World) (b1 b2 b3 n : Nat) (us su : Bool) (s : ByteArray) (p c i : Nat) : Prop := ∀ k, k < i -> p * 4096 + 4 * k + 4 <= s.size -> Ent w b1 b2 b3 n us su s (p * 4096 + 4 * k) c
theorem Rds.up {w w' : World} {b1 b2 b3 n : Nat} {us su : Bool} {s : ByteArray} {p c i : Nat} (h : Rds w b1 b2 b3 n us su s p c i) (hu : Up w w') (l1 : b1 < w.heap.size) (l2 : b2 < w.heap.size) (l3 : b3 < w.heap.size) : Rds w' b1 b2 b3 n us su s p c i :=
 fun k hk hs hl => ⟨hu _ _ l3 (h k hk hs hl).1, (h k hk hs hl).2.up hu l1 l2⟩
theorem Rds.next {w : World} {b1 b2 b3 n : Nat} {us su : Bool} {s : ByteArray} {p c i : Nat} (h : Rds w b1 b2 b3 n us su s p c i) (he : p * 4096 + 4 * i + 4 <= s.size -> Ent w b1 b2 b3 n us su s (p * 4096 + 4 * i) c) : Rds w b1 b2 b3 n us su s p c (i + 1) := fun k hk hs => by
 rcases Nat.lt_or_ge k i with h3 | h3
 . exact h k h3 hs
 . obtain rfl : k = i := by omega
   exact he hs
theorem Rds.end {w : World} {b1 b2 b3 n : Nat} {us su : Bool} {s : ByteArray} {p c i : Nat} (h : Rds w b1 b2 b3 n us su s p c i) (he : s.size < p * 4096 + 4 * i + 4) (j : Nat) : Rds w b1 b2 b3 n us su s p c j := fun k hk hs => h k (by omega) hs
set_option maxRecDepth 100000 in
theorem k_readL (tb b0 b1 b2 b3 b4 n m p : Nat) (s : ByteArray) (hs : s.size <= 65536) (hn : Hid (n = (s.size + 4095) / 4096)) (hm : Hid (m = s.size / 4 + 1)) (hp : p < n) (us su : Bool) (w : World) (hw : Hid (Tabs w tb b0 b1 b2 b3 b4 n m)) :
 Calls prog 112 #[.pointer (some ⟨tb, 0, none⟩), .string s, .int .i64 p, .bool false, .bool us, .bool su] w fun o w' => o = .returned (.tuple #[]) /\ Tabs w' tb b0 b1 b2 b3 b4 n m /\ Kept [b0, b1, b2, b3] w w' /\ Up w w' /\ Tru w' b0 p /\ Rds w' b1 b2 b3 n us su s p 1 1024 := by
 have hn20 : n <= 20 := by have := hn.out; omega
 have z0 := hw.out.hdr.lt
 have c0 := hw.out.hdr.cell 0 _ rfl
 obtain ⟨r0, e0⟩ := hw.out.s0.cell p hp
 have f0 := hw.out.s0.fro p
 have W0 := hide1 (hw.out.set b0 p true (by simp))
 have K0 : Hid (Kept [b0, b1, b2, b3] w (w.setCell ⟨b0, p, none⟩ (.bool true))) := zq140
 have I0 : Hid (Up w (w.setCell ⟨b0, p, none⟩ (.bool true)) /\ Tru (w.setCell ⟨b0, p, none⟩ (.bool true)) b0 p /\ Rds (w.setCell ⟨b0, p, none⟩ (.bool true)) b1 b2 b3 n us su s p 1 0) := hide1 ⟨Up.set w b0 p, World.cell?_setCell_same _ _ _ e0, fun k hk => absurd hk (by omega)⟩
 clear hw
 go_enter func112, ntmps112
 go_wp2_with fail
 go_loopw [12] (fun x wr => ∃ i : Nat, i <= 1024 /\ x = .int .i64 i /\ Hid (Tabs wr tb b0 b1 b2 b3 b4 n m) /\ Hid (Kept [b0, b1, b2, b3] w wr) /\ Hid (Up w wr /\ Tru wr b0 p /\ Rds wr b1 b2 b3 n us su s p 1 i)) (fun x _ => 1024 - (intOf x).toNat)
 case atStart => exact ⟨0, by omega, rfl, W0, K0, I0⟩
 case round =>
  obtain ⟨i, hi, rfl, hb, hk, hI⟩ := hrel
  clear W0 K0 I0 z0 c0 e0 f0
  by_cases hlt : i < 1024
  . have hlt' : decide ((i : Int) < 1024) = true := by simp; omega
    obtain ⟨A, hA⟩ : ∃ A : Nat, (p : Int) * 4096 + 4 * (i : Int) = A := ⟨p * 4096 + 4 * i, by omega⟩
    by_cases hs4 : A + 4 <= s.size
    . have hs4' : decide ((A : Int) + 4 > (s.size : Int)) = false := by simp; omega
      have hs4'' : decide ((s.size : Int) < (A : Int) + 4) = false := by simp; omega
      have AA := hide1 (show p * 4096 + 4 * i = A by omega)
      obtain ⟨v, ev⟩ := zn2 (ldS s A)
      have hv : v < 4294967296 := by rw [<- ev]; exact ldS_lt s A
      have LE := hide1 (k_leB s A hs4 (by omega) v ev wr)
      have EV := hide1 ev
      clear ev
      go_wp2_with fail
      refine LE.out.mono ?_
      rintro o w1 ⟨rfl, hk1⟩
      have B1 := hide1 (hb.out.kept hk1)
      have K1 : Hid (Kept [b0, b1, b2, b3] w w1) := hide1 (hk.out.trans (hk1.mono (by simp)))
      have I1 : Hid (Up w w1 /\ Tru w1 b0 p /\ Rds w1 b1 b2 b3 n us su s p 1 i) := hide1 ⟨hI.out.1.trans hk.out.size (Up.kept hk1), Up.kept hk1 _ _ hb.out.s0.lt hI.out.2.1, hI.out.2.2.up (Up.kept hk1) hb.out.s1.lt hb.out.s2.lt hb.out.s3.lt⟩
      clear hb hk hk1 LE hI
      obtain ⟨P, hP⟩ : ∃ P : Nat, (v : Int) / 1024 = P := ⟨v / 1024, by omega⟩
      have hP1 : P <= 4294967296 := by omega
      have z1 := B1.out.hdr.lt
      have c3 := B1.out.hdr.cell 3 _ rfl
      obtain ⟨L, l2, hLm⟩ : ∃ L : Nat, Int.tdiv (A : Int) 4 = L /\ L < m := ⟨A / 4, by rw [Int.tdiv_eq_ediv_of_nonneg (by omega)]; omega, by have := hm.out; omega⟩
      have l3 : L <= 70000 := by have := hm.out; omega
      obtain ⟨r3, e3⟩ := B1.out.s3.cell L hLm
      have f3 := B1.out.s3.fro L
      have B2 := hide1 (B1.out.set b3 L true (by simp))
      have K2 : Hid (Kept [b0, b1, b2, b3] w (w1.setCell ⟨b3, L, none⟩ (.bool true))) := hide1 (K1.out.setCell (.inl (by simp)) _)
      have K9 : Hid (Kept [b0, b1, b2, b3] w1 (w1.setCell ⟨b3, L, none⟩ (.bool true))) := zq140
      have CV := hide1 (k_cover tb b0 b1 b2 b3 b4 n m (by omega) 1 (by omega) P v (by omega) hv us su _ B2)
      have HP := hide1 (show v / 1024 = P by omega)
      have HL := hide1 (show A / 4 = L by rw [Int.tdiv_eq_ediv_of_nonneg (by omega)] at l2; omega)
      rcases beqC (bits .and .i64 (v : Int) 1) 1 with ⟨g1, g1'⟩ | ⟨g1, g1'⟩
      . rcases beqC (bits .and .i64 (v : Int) 10) 0 with ⟨g2, g2'⟩ | ⟨g2, g2'⟩
        . have I2 : Hid (Up w w1 /\ Tru w1 b0 p /\ Rds w1 b1 b2 b3 n us su s p 1 (i + 1)) := hide1 ⟨I1.out.1, I1.out.2.1, I1.out.2.2.next (fun _ hl => by rw [AA.out, EV.out] at hl; have := (tst_10 v hv).1 (eq_of_beq g2); unfold isLf at hl; rw [this.1, this.2] at hl; simp at hl)⟩
          exact zq430
        . clear B2
          go_wp2_with fail
          refine CV.out.mono ?_
          rintro o w3 ⟨rfl, hb3, hk3, hu3, hc3⟩
          have B3 := hide1 hb3
          have K3 := hide1 (K2.out.trans hk3)
          have U3 : Up w1 w3 := (Up.set w1 b3 L).trans K9.out.size hu3
          have I3 : Hid (Up w w3 /\ Tru w3 b0 p /\ Rds w3 b1 b2 b3 n us su s p 1 (i + 1)) := hide1 ⟨I1.out.1.trans K1.out.size U3, U3 _ _ B1.out.s0.lt I1.out.2.1, (I1.out.2.2.up U3 B1.out.s1.lt B1.out.s2.lt B1.out.s3.lt).next (fun _ hl => by
           rw [AA.out, EV.out, HP.out, HL.out]
           exact ⟨hu3 _ _ (Nat.lt_of_lt_of_le B1.out.s3.lt K9.out.size) (World.cell?_setCell_same _ _ _ e3), hc3⟩)⟩
          clear hu3 hc3 U3 I1
          clear hb3 hk3 K2 CV B1 K1 c3 e3 f3
          go_wp2_with fail
          go_roundw
          case rel => exact ⟨i + 1, by omega, by go_num, B3, K3, I3⟩
          case measure => exact zq191
      . have I2 : Hid (Up w w1 /\ Tru w1 b0 p /\ Rds w1 b1 b2 b3 n us su s p 1 (i + 1)) := hide1 ⟨I1.out.1, I1.out.2.1, I1.out.2.2.next (fun _ hl => by rw [AA.out, EV.out] at hl; exact absurd ((tst_1 v hv).2 hl.1) (by simpa using g1))⟩
        exact zq430
    . have hs4' : decide ((A : Int) + 4 > (s.size : Int)) = true := by simp; omega
      have hs4'' : decide ((s.size : Int) < (A : Int) + 4) = true := by simp; omega
      go_wp2_with fail
      (try simp only [Exit.inBlock, Exit.then])
      refine bodyPost_ret (results_none rfl _ _ _) rfl ?_
      exact ⟨rfl, hb.out, hk.out, hI.out.1, hI.out.2.1, hI.out.2.2.end (by omega) _⟩
  . have hlt' : decide ((i : Int) < 1024) = false := by simp; omega
    go_wp2_with fail
    obtain rfl : i = 1024 := by omega
    go_end0
    exact ⟨rfl, hb.out, hk.out, hI.out⟩
end
section
attribute [local go_sem ↓] Go.wp_at_zero Go.wp_at_succ
variable {w0 w w' : World} {tb b0 b1 b2 b3 b4 n m : Nat} {us su : Bool} {s : ByteArray} {p i : Nat}
def isPt (e : Nat) : Prop := bitN e 0 = true /\ bitN e 1 = false /\ bitN e 3 = false
def Low (w : World) (b0 b1 b2 b3 b4 n : Nat) (us su : Bool) (s : ByteArray) : Prop := ∀ q, q < n -> Tru w b4 q -> Tru w b0 q /\ Rds w b1 b2 b3 n us su s q 1 1024
structure RI (w0 w : World) (tb b0 b1 b2 b3 b4 n m : Nat) (us su : Bool) (s : ByteArray) (p i : Nat) : Prop where
 ta : Tabs w tb b0 b1 b2 b3 b4 n m
 kp : Kept [b0, b1, b2, b3, b4] w0 w
 up : Up w0 w
 t0 : Tru w b0 p
 lo : Low w b0 b1 b2 b3 b4 n us su s
 rd : Rds w b1 b2 b3 n us su s p 1024 i
 pt : ∀ k, k < i -> p * 4096 + 4 * k + 4 <= s.size -> isPt (ldS s (p * 4096 + 4 * k)) -> ∀ q, ldS s (p * 4096 + 4 * k) / 1024 = q + 524288 -> q < n -> Tru w b4 q
variable {w0 w w' : World} {tb b0 b1 b2 b3 b4 n m : Nat} {us su : Bool} {s : ByteArray} {p i : Nat}
theorem RI.move (h : RI w0 w tb b0 b1 b2 b3 b4 n m us su s p i) (ht : Tabs w' tb b0 b1 b2 b3 b4 n m) (hk : Kept [b0, b1, b2, b3, b4] w w') (hu : Up w w') (h4 : ∀ q, q < n -> Tru w' b4 q -> Tru w b4 q \/ Tru w' b0 q /\ Rds w' b1 b2 b3 n us su s q 1 1024) : RI w0 w' tb b0 b1 b2 b3 b4 n m us su s p i :=
 have a := h.ta
 ⟨ht, h.kp.trans hk, h.up.trans h.kp.size hu, hu _ _ a.s0.lt h.t0, fun q hq h5 => (h4 q hq h5).elim (fun h6 => ⟨hu _ _ a.s0.lt (h.lo q hq h6).1, (h.lo q hq h6).2.up hu a.s1.lt a.s2.lt a.s3.lt⟩) id, h.rd.up hu a.s1.lt a.s2.lt a.s3.lt, fun k hk h1 h2 q h3 h5 => hu _ _ a.s4.lt (h.pt k hk h1 h2 q h3 h5)⟩
theorem RI.kept (h : RI w0 w tb b0 b1 b2 b3 b4 n m us su s p i) (hk : Kept [] w w') : RI w0 w' tb b0 b1 b2 b3 b4 n m us su s p i :=
 h.move (h.ta.kept hk) (hk.mono (by simp)) (Up.kept hk) (fun q _ h5 => .inl ((hk.cell (p := ⟨b4, q, none⟩) h.ta.s4.lt (by simp)).symm.trans h5))
theorem RI.four (h : RI w0 w tb b0 b1 b2 b3 b4 n m us su s p i) (ht : Tabs w' tb b0 b1 b2 b3 b4 n m) (hk : Kept [b0, b1, b2, b3] w w') (hu : Up w w') : RI w0 w' tb b0 b1 b2 b3 b4 n m us su s p i :=
 h.move ht (hk.mono (by simp)) hu (fun q _ h5 => .inl ((hk.cell (p := ⟨b4, q, none⟩) h.ta.s4.lt h.ta.n4).symm.trans h5))
theorem RI.next (h : RI w0 w tb b0 b1 b2 b3 b4 n m us su s p i) {A v : Nat} (hA : p * 4096 + 4 * i = A) (hv : ldS s A = v) (h1 : isLf v -> Tru w b3 (A / 4) /\ Cov w b1 b2 n us su v (v / 1024) 1024) (h2 : isPt v -> ∀ q, v / 1024 = q + 524288 -> q < n -> Tru w b4 q) : RI w0 w tb b0 b1 b2 b3 b4 n m us su s p (i + 1) := by
 refine ⟨h.ta, h.kp, h.up, h.t0, h.lo, h.rd.next (fun _ => by unfold Ent; rw [hA, hv]; exact h1), fun k hk q1 q2 => ?_⟩
 rcases Nat.lt_or_ge k i with h3 | h3
 . exact h.pt k h3 q1 q2
 . obtain rfl : k = i := by omega
   rw [hA, hv] at q2 |-
   exact h2 q2
theorem RI.end (h : RI w0 w tb b0 b1 b2 b3 b4 n m us su s p i) (he : s.size < p * 4096 + 4 * i + 4) (j : Nat) : RI w0 w tb b0 b1 b2 b3 b4 n m us su s p j := ⟨h.ta, h.kp, h.up, h.t0, h.lo, h.rd.end he j, fun k hk q1 => h.pt k (by omega) q1⟩
set_option maxRecDepth 100000 in
theorem k_readR (tb b0 b1 b2 b3 b4 n m p : Nat) (s : ByteArray) (hs : s.size <= 65536) (hn : Hid (n = (s.size + 4095) / 4096)) (hm : Hid (m = s.size / 4 + 1)) (hp : p < n) (us su : Bool) (w : World) (hw : Hid (Tabs w tb b0 b1 b2 b3 b4 n m)) (hl : Hid (∀ q, q < n -> ¬ Tru w b4 q)) :
 Calls prog 112 #[.pointer (some ⟨tb, 0, none⟩), .string s, .int .i64 p, .bool true, .bool us, .bool su] w fun o w' => o = .returned (.tuple #[]) /\ RI w w' tb b0 b1 b2 b3 b4 n m us su s p 1024 := by
 have hn20 : n <= 20 := by have := hn.out; omega
 have z0 := hw.out.hdr.lt
 have c0 := hw.out.hdr.cell 0 _ rfl
 obtain ⟨r0, e0⟩ := hw.out.s0.cell p hp
 have f0 := hw.out.s0.fro p
 have K0 : Hid (Kept [b0, b1, b2, b3] w (w.setCell ⟨b0, p, none⟩ (.bool true))) := zq140
 have I0 : Hid (RI w (w.setCell ⟨b0, p, none⟩ (.bool true)) tb b0 b1 b2 b3 b4 n m us su s p 0) := hide1 ⟨hw.out.set b0 p true (by simp), K0.out.mono (by simp), Up.set w b0 p, World.cell?_setCell_same _ _ _ e0, fun q hq h => absurd ((K0.out.cell hw.out.s4.lt hw.out.n4).symm.trans h) (hl.out q hq), fun k hk => absurd hk (by omega), fun k hk => absurd hk (by omega)⟩
 clear hw hl K0
 go_enter func112, ntmps112
 go_wp2_with fail
 go_loopw [12] (fun x wr => ∃ i : Nat, i <= 1024 /\ x = .int .i64 i /\ Hid (RI w wr tb b0 b1 b2 b3 b4 n m us su s p i)) (fun x _ => 1024 - (intOf x).toNat)
 case atStart => exact ⟨0, by omega, rfl, I0⟩
 case round =>
  obtain ⟨i, hi, rfl, hI⟩ := hrel
  clear I0 z0 c0 e0 f0
  by_cases hlt : i < 1024
  . have hlt' : decide ((i : Int) < 1024) = true := by simp; omega
    obtain ⟨A, hA⟩ : ∃ A : Nat, (p : Int) * 4096 + 4 * (i : Int) = A := ⟨p * 4096 + 4 * i, by omega⟩
    by_cases hs4 : A + 4 <= s.size
    . have hs4' : decide ((A : Int) + 4 > (s.size : Int)) = false := by simp; omega
      have hs4'' : decide ((s.size : Int) < (A : Int) + 4) = false := by simp; omega
      have AA := hide1 (show p * 4096 + 4 * i = A by omega)
      obtain ⟨v, ev⟩ := zn2 (ldS s A)
      have hv : v < 4294967296 := by rw [<- ev]; exact ldS_lt s A
      have LE := hide1 (k_leB s A hs4 (by omega) v ev wr)
      have EV := hide1 ev
      clear ev
      go_wp2_with fail
      refine LE.out.mono ?_
      rintro o w1 ⟨rfl, hk1⟩
      have J1 := hide1 (hI.out.kept hk1)
      clear hI hk1 LE
      obtain ⟨P, hP⟩ : ∃ P : Nat, (v : Int) / 1024 = P := ⟨v / 1024, by omega⟩
      have hP1 : P <= 4294967296 := by omega
      have HP := hide1 (show v / 1024 = P by omega)
      have z1 := J1.out.ta.hdr.lt
      rcases beqC (bits .and .i64 (v : Int) 1) 1 with ⟨g1, g1'⟩ | ⟨g1, g1'⟩
      . rcases beqC (bits .and .i64 (v : Int) 10) 0 with ⟨g2, g2'⟩ | ⟨g2, g2'⟩
        . have NL : Hid (¬ isLf v) := hide1 (fun hl => by have := (tst_10 v hv).1 (eq_of_beq g2); unfold isLf at hl; rw [this.1, this.2] at hl; simp at hl)
          by_cases h0 : 0 <= (P : Int) - 524288
          . obtain ⟨q, hq⟩ : ∃ q : Nat, (P : Int) - 524288 = q := ⟨P - 524288, by omega⟩
            by_cases h1 : q < n
            . have h1' : decide ((q : Int) < (n : Int)) = true := by simp; omega
              have c4 := J1.out.ta.hdr.cell 4 _ rfl
              obtain ⟨r4, e4⟩ := J1.out.ta.s4.cell q h1
              have f4 := J1.out.ta.s4.fro q
              cases r4
              . have B5 := hide1 (J1.out.ta.set b4 q true (by simp))
                have K5 : Hid (Kept [b0, b1, b2, b3, b4] w1 (w1.setCell ⟨b4, q, none⟩ (.bool true))) := zq140
                have T5 : Hid (Tru (w1.setCell ⟨b4, q, none⟩ (.bool true)) b4 q) := hide1 (World.cell?_setCell_same _ _ _ e4)
                have RD := hide1 (k_readL tb b0 b1 b2 b3 b4 n m q s hs hn hm h1 us su _ B5)
                have n1 : ¬ tb = b4 := fun h => J1.out.ta.ne (by simp [h])
                have n2 : ¬ b4 = tb := fun h => n1 h.symm
                go_wp2_with fail
                refine RD.out.mono ?_
                rintro o w5 ⟨rfl, hb5, hk5, hu5, ht5, hr5⟩
                have U5 : Up w1 w5 := (Up.set w1 b4 q).trans K5.out.size hu5
                have I6 := hide1 (J1.out.move hb5 (K5.out.trans (hk5.mono (by simp))) U5 (fun q' _ h6 => by
                 by_cases e : q' = q
                 . rw [e]; exact .inr ⟨ht5, hr5⟩
                 . have h7 : Tru (w1.setCell ⟨b4, q, none⟩ (.bool true)) b4 q' := (hk5.cell (p := ⟨b4, q', none⟩) B5.out.s4.lt J1.out.ta.n4).symm.trans h6
                   unfold Tru at h7
                   rw [World.cell?_setCell_other _ _ _ _ (by simp)] at h7
                   exact .inl h7))
                have I7 := hide1 (I6.out.next AA.out EV.out (fun h => absurd h NL.out) (fun _ q' e1 _ => by
                 have : q' = q := by rw [HP.out] at e1; omega
                 rw [this]
                 exact hu5 _ _ B5.out.s4.lt T5.out))
                clear hb5 hk5 hu5 ht5 hr5 K5 RD U5 I6 T5 B5 J1
                exact zq431
              . have I7 := hide1 (J1.out.next AA.out EV.out (fun h => absurd h NL.out) (fun _ q' e1 _ => by
                 have : q' = q := by rw [HP.out] at e1; omega
                 rw [this]; exact e4))
                exact zq431
            . have h1' : decide ((q : Int) < (n : Int)) = false := by simp; omega
              have c4 := J1.out.ta.hdr.cell 4 _ rfl
              exact zq432
          . have h0' : decide (0 <= (P : Int) - 524288) = false := by simp; omega
            exact zq432
        . have c3 := J1.out.ta.hdr.cell 3 _ rfl
          obtain ⟨L, l2, hLm⟩ : ∃ L : Nat, Int.tdiv (A : Int) 4 = L /\ L < m := ⟨A / 4, by rw [Int.tdiv_eq_ediv_of_nonneg (by omega)]; omega, by have := hm.out; omega⟩
          have l3 : L <= 70000 := by have := hm.out; omega
          have HL := hide1 (show A / 4 = L by rw [Int.tdiv_eq_ediv_of_nonneg (by omega)] at l2; omega)
          obtain ⟨r3, e3⟩ := J1.out.ta.s3.cell L hLm
          have f3 := J1.out.ta.s3.fro L
          have B2 := hide1 (J1.out.ta.set b3 L true (by simp))
          have K9 : Hid (Kept [b0, b1, b2, b3] w1 (w1.setCell ⟨b3, L, none⟩ (.bool true))) := zq140
          have CV := hide1 (k_cover tb b0 b1 b2 b3 b4 n m (by omega) 1024 (by omega) P v (by omega) hv us su _ B2)
          go_wp2_with fail
          refine CV.out.mono ?_
          rintro o w3 ⟨rfl, hb3, hk3, hu3, hc3⟩
          have U3 : Up w1 w3 := (Up.set w1 b3 L).trans K9.out.size hu3
          have I3 := hide1 (J1.out.four hb3 (K9.out.trans hk3) U3)
          have I7 := hide1 (I3.out.next AA.out EV.out (fun _ => by
           rw [HL.out, HP.out]
           exact ⟨hu3 _ _ (Nat.lt_of_lt_of_le J1.out.ta.s3.lt K9.out.size) (World.cell?_setCell_same _ _ _ e3), hc3⟩) (fun h => absurd ((tst_10 v hv).2 h.2) (by simpa using g2)))
          clear hb3 hk3 hu3 hc3 U3 I3 CV B2 K9 c3 e3 f3 J1
          exact zq431
      . have I7 := hide1 (J1.out.next AA.out EV.out (fun h => absurd ((tst_1 v hv).2 h.1) (by simpa using g1)) (fun h => absurd ((tst_1 v hv).2 h.1) (by simpa using g1)))
        exact zq431
    . have hs4' : decide ((A : Int) + 4 > (s.size : Int)) = true := by simp; omega
      have hs4'' : decide ((s.size : Int) < (A : Int) + 4) = true := by simp; omega
      go_wp2_with fail
      (try simp only [Exit.inBlock, Exit.then])
      refine bodyPost_ret (results_none rfl _ _ _) rfl ?_
      exact ⟨rfl, hI.out.end (by omega) _⟩
  . have hlt' : decide ((i : Int) < 1024) = false := by simp; omega
    obtain rfl : i = 1024 := by omega
    go_wp2_with fail
    go_end0
    exact ⟨rfl, hI.out⟩
end
section
attribute [local go_sem ↓] Go.wp_at_zero Go.wp_at_succ
theorem Tryz.info4 : (prog.info? 4).map (fun i => (i.zero, i.size, i.bytes)) = some (some (.bool false), 1, 1) := by kernel_rfl
theorem mkBo (n : Nat) (hn : n <= 100000) (w : World) : (Instr.makeSlice 104 (.int .i64 (n : Int)) (.int .i64 (n : Int))).run prog w = .ok (.slice (some ⟨w.heap.size, 0, none⟩) n n) (w.alloc (.cells (madeCells #[.bool false] n) 4)) := by
 obtain ⟨i0, hi, hz0, hz1, hz2⟩ := info_parts Tryz.info4
 have h := run_makeSlice (P := prog) w 104 4 i0 (.bool false) Tryz.underlying104 hi hz0 .i64 .i64 n n (by omega) (Int.le_refl _) (by rw [hz1]; omega) (by rw [hz2]; omega) (by omega)
 rw [hz1] at h
 simpa [Value.cells] using h
theorem Bo.new (w : World) (n T : Nat) : Bo (w.alloc (.cells (madeCells #[.bool false] n) T)) w.heap.size n :=
 ⟨fun j hj => ⟨false, by simp [madeCells, hj, Nat.mod_one]⟩, fun o => by simp, by simp⟩
theorem wpAnyH_many {P : Program} {ops : Array Oper} {Q : Exit -> Act -> World -> Prop} {md : Region.Mode} {S : World -> Prop} (J : Nat -> Array Bool -> Act -> World -> Prop) (k : Nat)
 (hs : ∀ n l a w, J (n + 1) l a w -> Region.ready md ops l ≠ [] /\ ∀ i ∈ Region.ready md ops l, wpOp P ops Q i (fun a' w' => S w' /\ J n (l.setIfInBounds i true) a' w') a w)
 (h0 : ∀ l a w, J 0 l a w -> wpAnyH P md ops Q S k l a w) : ∀ n l a w, J n l a w -> wpAnyH P md ops Q S (n + k) l a w
 | 0, l, a, w, h => by rw [Nat.zero_add]; exact h0 l a w h
 | n + 1, l, a, w, h => by
  rw [Nat.succ_add]
  exact wpAnyH_all rfl (hs n l a w h).1 (fun i hi => wpOp_mono (fun a' w' h' => ⟨h'.1, wpAnyH_many J k hs h0 n _ a' w' h'.2⟩) ((hs n l a w h).2 i hi))
theorem Kept.fresh {F G : List Nat} {a b c : World} (h : Kept F a b) (k : Kept G b c) (hf : ∀ x ∈ G, a.heap.size <= x) : Kept F a c :=
 ⟨k.os.trans h.os, k.tape.trans h.tape, k.output.trans h.output, Nat.le_trans h.size k.size, fun i hi hn => (k.block i (Nat.lt_of_lt_of_le hi h.size) (fun hG => absurd (hf i hG) (by omega))).trans (h.block i hi hn)⟩
def Fl (w : World) (b n : Nat) : Prop := ∀ q, q < n -> w.cell? ⟨b, q, none⟩ = some (.bool false)
theorem Fl.kept {w w' : World} {b n : Nat} (h : Fl w b n) (hk : Kept [] w w') (hb : b < w.heap.size) : Fl w' b n := fun q hq => (hk.cell (p := ⟨b, q, none⟩) hb (by simp)).trans (h q hq)
theorem Fl.no {w : World} {b n : Nat} (h : Fl w b n) : ∀ q, q < n -> ¬ Tru w b q := fun q hq ht => by
 unfold Tru at ht; rw [h q hq] at ht; simp at ht
def Mk (w0 w : World) (b : Bool) (t : Value) (n : Nat) : Prop := b = true -> ∃ c : Nat, t = .slice (some ⟨c, 0, none⟩) n n /\ Bo w c n /\ w0.heap.size <= c /\ Fl w c n
def blk : Value -> Nat
 | .slice (some a) _ _ => a.block
 | _ => 0
theorem Mk.alloc {w0 w : World} {b : Bool} {t : Value} {n : Nat} (h : Mk w0 w b t n) (o : Obj) : Mk w0 (w.alloc o) b t n := fun e => by
 obtain ⟨c, h1, h2, h3, h4⟩ := h e
 exact ⟨c, h1, h2.more ((Kept.refl [] w).alloc o) (by simp), h3, h4.kept ((Kept.refl [] w).alloc o) h2.lt⟩
theorem Mk.new {w0 w : World} (hk : Kept [] w0 w) (n T : Nat) : Mk w0 (w.alloc (.cells (madeCells #[.bool false] n) T)) true (.slice (some ⟨w.heap.size, 0, none⟩) n n) n := fun _ => ⟨_, rfl, Bo.new w n T, hk.size, fun q hq => by simp [madeCells, hq, Nat.mod_one]⟩
theorem Mk.d {w0 w : World} {b : Bool} {t : Value} {n : Nat} (h : Mk w0 w b t n) (e : b = true) (T : Nat) : blk t ≠ blk (.slice (some ⟨w.heap.size, 0, none⟩) T T) /\ blk (.slice (some ⟨w.heap.size, 0, none⟩) T T) ≠ blk t := by
 obtain ⟨c, rfl, h2, _⟩ := h e
 have := h2.lt
 show c ≠ w.heap.size /\ w.heap.size ≠ c
 omega
def Dif (b b' : Bool) (t t' : Value) : Prop := b = true -> b' = true -> blk t ≠ blk t'
def Rt (w : World) (tb b0 b1 b2 b3 b4 n m : Nat) (f : Fc) : Prop := ∀ p : Nat, p < n -> f.satp % 4194304 = (p : Int) + 524288 -> ∃ w0, RI w0 w tb b0 b1 b2 b3 b4 n m (f.mode == 0) (f.mode == 1 && (bits .and .i64 (f.status / 262144) 1 == 1)) f.ram p 1024
def TbR (n m : Nat) (f : Fc) (o : Ending) (w : World) : Prop := ∃ tb b0 b1 b2 b3 b4 : Nat, o = .returned (.pointer (some ⟨tb, 0, none⟩)) /\ Tabs w tb b0 b1 b2 b3 b4 n m /\ Rt w tb b0 b1 b2 b3 b4 n m f
def mkAct (fb : Nat) (s : ByteArray) (n k m : Nat) (t1 t2 t3 t4 t5 : Value) : Act := { tmps := #[.pointer (some ⟨fb, 0, none⟩), undef, .pointer none, .int .i64 n, undef, undef, .pointer (some ⟨fb, 0, none⟩), .pointer (some ⟨fb, 0, none⟩), .pointer (some ⟨fb, 13, none⟩), .string s, .int .i64 s.size, .int .i64 (s.size + 4096), .int .i64 (s.size + 4096 - 1), .int .i64 n, .int .i64 n, t1, .int .i64 n, t2, .int .i64 n, t3, .int .i64 n, t4, .pointer (some ⟨fb, 0, none⟩), .pointer (some ⟨fb, 0, none⟩), .pointer (some ⟨fb, 13, none⟩), .string s, .int .i64 s.size, .int .i64 k, .int .i64 m, t5, undef, undef, undef, undef, undef, undef, undef, undef, undef, undef, undef, undef, undef, undef, undef, undef, undef, undef, undef, undef, undef, undef, undef, undef, undef, undef, undef, undef, undef, undef, undef, undef, undef, undef, undef, undef, undef, undef, undef, undef, undef, undef], defers := [] }
def mkLst (b1 b2 b3 b4 b5 : Bool) : Array Bool := #[true, b1, true, b2, true, b3, true, b4, true, true, true, true, true, true, true, b5, false, false, false]
def mkJ (w0 : World) (fb : Nat) (s : ByteArray) (n k m : Nat) (c : Nat) (l : Array Bool) (a : Act) (w : World) : Prop :=
 ∃ (b1 b2 b3 b4 b5 : Bool) (t1 t2 t3 t4 t5 : Value), c = (!b1).toNat + (!b2).toNat + (!b3).toNat + (!b4).toNat + (!b5).toNat /\ l = mkLst b1 b2 b3 b4 b5 /\ a = mkAct fb s n k m t1 t2 t3 t4 t5 /\ Mk w0 w b1 t1 n /\ Mk w0 w b2 t2 n /\ Mk w0 w b3 t3 n /\ Mk w0 w b4 t4 n /\ Mk w0 w b5 t5 m /\ (Dif b2 b3 t2 t3 /\ Dif b4 b1 t4 t1 /\ Dif b4 b2 t4 t2 /\ Dif b4 b3 t4 t3 /\ Dif b4 b5 t4 t5) /\ Kept [] w0 w
theorem mem_of_eq {i : Nat} {l l' : List Nat} (h : i ∈ l) (e : l = l') : i ∈ l' := e ▸ h
theorem ne_nil_of {l : List Nat} (h : l.isEmpty = false) : l ≠ [] := by rintro rfl; cases h
set_option maxRecDepth 100000 in
theorem k_tablesOf (fb z : Nat) (f : Fc) (hz : z <= 65536) (hf1 : FcOk f z) (w : World) (hf : Hid (BoxF w fb f.l)) : Calls prog 66 #[.pointer (some ⟨fb, 0, none⟩)] w fun o w' => TbR ((z + 4095) / 4096) (z / 4 + 1) f o w' /\ Kept [] w w' := by
 have c0 := hf.out.cell 0 _ rfl
 have c2 := hf.out.cell 2 _ rfl
 have c7 := hf.out.cell 7 _ rfl
 have c13 := hf.out.cell 13 _ rfl
 have cl := hf.out.lt
 have zr := hf1.ram
 have sa := hf1.satp
 obtain ⟨s, hs⟩ := zn1 (f.ram)
 rw [<- hs] at zr c13
 obtain ⟨n, hn⟩ := zn1 ((z + 4095) / 4096 : Nat)
 obtain ⟨m, hm⟩ := zn1 (z / 4 + 1 : Nat)
 rw [<- hn, <- hm]
 have mk1 := mkBo n (by omega)
 have mk2 := mkBo m (by omega)
 have q1 : Int.tdiv ((s.size : Int) + 4095) 4096 = n := zq146
 have q2 : Int.tdiv ((s.size : Int) + 4096 - 1) 4096 = n := zq146
 have q3 : Int.tdiv (s.size : Int) 4 + 1 = m := zq146
 obtain ⟨k, q4⟩ : ∃ k : Nat, Int.tdiv (s.size : Int) 4 = k := ⟨s.size / 4, by rw [Int.tdiv_eq_ediv_of_nonneg (by omega)]; omega⟩
 have q5 : (k : Int) + 1 = m := by omega
 have hs6 : s.size <= 65536 := by omega
 have q6 : k <= 100000 := by omega
 have q7 : n <= 100 := by omega
 have q8 : m <= 100000 := by omega
 have KC : ∀ w', Kept [] w w' -> w'.cell? ⟨fb, 13, none⟩ = some (.string s) := fun w' h => (h.cell cl (by simp)).trans c13
 have u1 : IntKind.i64.wrap (k : Int) = k := zq115
 have u2 : IntKind.i64.wrap ((k : Int) + 1) = m := by rw [wrap_in _ (by omega)]; exact q5
 have u3 : IntKind.i64.wrap (m : Int) = m := zq115
 have HN := hide1 hn
 have HM := hide1 hm
 have HS := hide1 hs
 have ZR := hide1 zr
 clear hn hm hs q3 zr hz hf1
 go_enter func66, ntmps66
 go_upto_region 2 with fail
 go_cut [4] (fun q wx => (∃ tb b0 b1 b2 b3 b4 : Nat, q = .pointer (some ⟨tb, 0, none⟩) /\ Hid (Tabs wx tb b0 b1 b2 b3 b4 n m) /\ Hid (Fl wx b4 n) /\ Hid (∀ x ∈ [b0, b1, b2, b3, b4], w.heap.size <= x)) /\ Hid (Kept [] w wx))
 case first =>
  refine wp_region_held_drew (S := fun w' => w'.cell? ⟨fb, 13, none⟩ = some (.string s)) (by kernel_rfl) (KC _ (Kept.refl _ _).drew) (fun hHeld => ?_)
  refine tk 0 14 (.int .i64 n) hHeld ?_
  refine tk 2 16 (.int .i64 n) hHeld ?_
  refine tk 4 18 (.int .i64 n) hHeld ?_
  refine tk 6 20 (.int .i64 n) hHeld ?_
  refine tk 8 22 (.pointer (some ⟨fb, 0, none⟩)) hHeld ?_
  refine tk 9 23 (.pointer (some ⟨fb, 0, none⟩)) hHeld ?_
  refine tk 10 24 (.pointer (some ⟨fb, 13, none⟩)) hHeld ?_
  refine tk 11 25 (.string s) hHeld ?_
  refine tk 12 26 (.int .i64 s.size) hHeld ?_
  refine tk 13 27 (.int .i64 k) hHeld ?_
  refine tk 14 28 (.int .i64 m) hHeld ?_
  refine wpAnyH_many (mkJ w fb s n k m) 3 ?_ ?_ 5 _ _ _ ?_
  . rintro c l a w' ⟨b1, b2, b3, b4, b5, t1, t2, t3, t4, t5, hc, rfl, rfl, m1, m2, m3, m4, m5, nd, hk⟩
    refine ⟨?_, ?_⟩
    . cases b1 <;> cases b2 <;> cases b3 <;> cases b4 <;> cases b5 <;> first | exact ne_nil_of (by kernel_rfl) | (exact absurd hc (by simp))
    . intro i hi
      have hr : i ∈ (if b1 then [] else [1]) ++ (if b2 then [] else [3]) ++ (if b3 then [] else [5]) ++ (if b4 then [] else [7]) ++ (if b5 then [] else [15]) ++ (if b1 && b2 && b3 && b4 && b5 then [16] else []) := by
       refine mem_of_eq hi ?_
       clear hi hc nd m1 m2 m3 m4 m5
       cases b1 <;> cases b2 <;> cases b3 <;> cases b4 <;> cases b5 <;> kernel_rfl
      clear hi
      simp only [List.mem_append, List.mem_ite_nil_left, List.mem_singleton, List.mem_ite_nil_right, Bool.and_eq_true, Bool.not_eq_true] at hr
      rcases hr with ((((⟨rfl, rfl⟩ | ⟨rfl, rfl⟩) | ⟨rfl, rfl⟩) | ⟨rfl, rfl⟩) | ⟨rfl, rfl⟩) | ⟨⟨⟨⟨⟨rfl, rfl⟩, rfl⟩, rfl⟩, rfl⟩, rfl⟩
      . refine wpOp_step (o := ⟨some 15, .makeSlice 104 (.tmp 14) (.tmp 14), _, _, _, _⟩) rfl (fun K'' hK'' => ?_)
        unfold mkAct
        go_simp
        exact hK'' _ _ ⟨KC _ (hk.alloc _), true, b2, b3, b4, b5, _, t2, t3, t4, t5, by simp at hc |-; omega, rfl, rfl, (Mk.new hk _ _), (m2.alloc _), (m3.alloc _), (m4.alloc _), (m5.alloc _), ⟨nd.1, fun e _ => (m4.d e _).1, nd.2.2⟩, hk.alloc _⟩
      . refine wpOp_step (o := ⟨some 17, .makeSlice 104 (.tmp 16) (.tmp 16), _, _, _, _⟩) rfl (fun K'' hK'' => ?_)
        unfold mkAct
        go_simp
        exact hK'' _ _ ⟨KC _ (hk.alloc _), b1, true, b3, b4, b5, t1, _, t3, t4, t5, by simp at hc |-; omega, rfl, rfl, (m1.alloc _), (Mk.new hk _ _), (m3.alloc _), (m4.alloc _), (m5.alloc _), ⟨fun _ e => (m3.d e _).2, nd.2.1, fun e _ => (m4.d e _).1, nd.2.2.2⟩, hk.alloc _⟩
      . refine wpOp_step (o := ⟨some 19, .makeSlice 104 (.tmp 18) (.tmp 18), _, _, _, _⟩) rfl (fun K'' hK'' => ?_)
        unfold mkAct
        go_simp
        exact hK'' _ _ ⟨KC _ (hk.alloc _), b1, b2, true, b4, b5, t1, t2, _, t4, t5, by simp at hc |-; omega, rfl, rfl, (m1.alloc _), (m2.alloc _), (Mk.new hk _ _), (m4.alloc _), (m5.alloc _), ⟨fun e _ => (m2.d e _).1, nd.2.1, nd.2.2.1, fun e _ => (m4.d e _).1, nd.2.2.2.2⟩, hk.alloc _⟩
      . refine wpOp_step (o := ⟨some 21, .makeSlice 104 (.tmp 20) (.tmp 20), _, _, _, _⟩) rfl (fun K'' hK'' => ?_)
        unfold mkAct
        go_simp
        exact hK'' _ _ ⟨KC _ (hk.alloc _), b1, b2, b3, true, b5, t1, t2, t3, _, t5, by simp at hc |-; omega, rfl, rfl, (m1.alloc _), (m2.alloc _), (m3.alloc _), (Mk.new hk _ _), (m5.alloc _), ⟨nd.1, fun _ e => (m1.d e _).2, fun _ e => (m2.d e _).2, fun _ e => (m3.d e _).2, fun _ e => (m5.d e _).2⟩, hk.alloc _⟩
      . refine wpOp_step (o := ⟨some 29, .makeSlice 104 (.tmp 28) (.tmp 28), _, _, _, _⟩) rfl (fun K'' hK'' => ?_)
        unfold mkAct
        go_simp
        exact hK'' _ _ ⟨KC _ (hk.alloc _), b1, b2, b3, b4, true, t1, t2, t3, t4, _, by simp at hc |-; omega, rfl, rfl, (m1.alloc _), (m2.alloc _), (m3.alloc _), (m4.alloc _), (Mk.new hk _ _), ⟨nd.1, nd.2.1, nd.2.2.1, nd.2.2.2.1, fun e _ => (m4.d e _).1⟩, hk.alloc _⟩
      . exact absurd hc (by simp)
  . rintro l a w' ⟨b1, b2, b3, b4, b5, t1, t2, t3, t4, t5, hc, rfl, rfl, m1, m2, m3, m4, m5, nd, hk⟩
    cases b1 <;> cases b2 <;> cases b3 <;> cases b4 <;> cases b5 <;> first | (exfalso; revert hc; simp; done) | skip
    obtain ⟨c1, rfl, o1, g1, l1⟩ := m1 rfl
    obtain ⟨c2, rfl, o2, g2, l2⟩ := m2 rfl
    obtain ⟨c3, rfl, o3, g3, l3⟩ := m3 rfl
    obtain ⟨c4, rfl, o4, g4, l4⟩ := m4 rfl
    obtain ⟨c5, rfl, o5, g5, l5⟩ := m5 rfl
    have hne : ¬ c2 = c3 := nd.1 rfl rfl
    have hn4 : ¬ c4 ∈ [c1, c2, c3, c5] := by
     have q1 : c4 ≠ c1 := nd.2.1 rfl rfl
     have q2 : c4 ≠ c2 := nd.2.2.1 rfl rfl
     have q3 : c4 ≠ c3 := nd.2.2.2.1 rfl rfl
     have q5 : c4 ≠ c5 := nd.2.2.2.2 rfl rfl
     simp [q1, q2, q3, q5]
    have hS : w'.cell? ⟨fb, 13, none⟩ = some (.string s) := KC _ hk
    clear nd m1 m2 m3 m4 m5 hc hHeld
    unfold mkAct mkLst
    refine tk 16 30 (.agg #[.slice (some ⟨c1, 0, none⟩) n n, .slice (some ⟨c2, 0, none⟩) n n, .slice (some ⟨c3, 0, none⟩) n n, .slice (some ⟨c5, 0, none⟩) m m, .slice (some ⟨c4, 0, none⟩) n n]) hS ?_
    refine wpAnyH_ready (rs := [17]) (by kernel_rfl) (by simp) ?_
    refine AllReadyH.cons (o := ⟨some 31, .box 106 (.tmp 30), _, _, _, _⟩) rfl (fun K'' hK'' => ?_) AllReadyH.nil
    go_simp
    refine hK''.out _ _ (KC _ (hk.alloc _)) (fun hHeld => ?_)
    simp only [Act.put, List.setIfInBounds_toArray, List.set_cons_zero, List.set_cons_succ]
    refine tk 18 4 (.pointer (some ⟨w'.heap.size, 0, none⟩)) hHeld ?_
    refine wpAnyH_done (by kernel_rfl) ?_ _
    go_wp2_with fail
    go_meet
    case rel =>
     have K1 := (Kept.refl [] w').alloc (.cells #[.slice (some ⟨c1, 0, none⟩) n n, .slice (some ⟨c2, 0, none⟩) n n, .slice (some ⟨c3, 0, none⟩) n n, .slice (some ⟨c5, 0, none⟩) m m, .slice (some ⟨c4, 0, none⟩) n n] 106)
     exact ⟨⟨_, c1, c2, c3, c5, c4, rfl, hide1 ⟨BoxF.new w' _ _, o1.more K1 (by simp), o2.more K1 (by simp), o3.more K1 (by simp), o5.more K1 (by simp), o4.more K1 (by simp), by simp only [List.mem_cons, List.not_mem_nil, or_false, not_or]; refine ⟨?_, ?_, ?_, ?_, ?_⟩ <;> intro e <;> first | exact absurd o1.lt (by omega) | exact absurd o2.lt (by omega) | exact absurd o3.lt (by omega) | exact absurd o4.lt (by omega) | exact absurd o5.lt (by omega), hne, hn4⟩, hide1 (l4.kept K1 o4.lt), hide1 (by simp only [List.mem_cons, List.not_mem_nil, or_false]; rintro x (rfl | rfl | rfl | rfl | rfl) <;> assumption)⟩, hide1 (hk.alloc _)⟩
  . exact ⟨false, false, false, false, false, undef, undef, undef, undef, undef, rfl, rfl, rfl, zq540, zq540, zq540, zq540, zq540, ⟨zq540, zq540, zq540, zq540, zq540⟩, (Kept.refl _ _).drew⟩
 case rest =>
 obtain ⟨⟨tb, b0, b1, b2, b3, b4, rfl, ht, hfl, hfr⟩, hk⟩ := hcut
 have d0 := (hf.out.kept hk.out).cell 0 _ rfl
 have d2 := (hf.out.kept hk.out).cell 2 _ rfl
 have d7 := (hf.out.kept hk.out).cell 7 _ rfl
 have d13 := KC _ hk.out
 have dl := Nat.lt_of_lt_of_le cl hk.out.size
 have RR := hide1 (fun (p : Nat) (hp : p < n) (us su : Bool) (W : World) (hW : Hid (Tabs W tb b0 b1 b2 b3 b4 n m)) (hl : Hid (∀ q, q < n -> ¬ Tru W b4 q)) => k_readR tb b0 b1 b2 b3 b4 n m p s hs6 (hide1 (by rw [ZR.out]; exact HN.out)) (hide1 (by rw [ZR.out]; exact HM.out)) hp us su W hW hl)
 obtain ⟨A, ab, hA⟩ : ∃ A : Nat, A < 4294967296 /\ bits .and .i64 f.satp 4194303 = (A : Int) := ⟨_, Nat.lt_of_le_of_lt Nat.and_le_right (by omega), and_any f.satp 4194303 (by omega)⟩
 have wA : IntKind.i64.wrap ((A : Int) - 524288) = (A : Int) - 524288 := zq115
 have AE : Hid (f.satp % 4194304 = (A : Int)) := hide1 (by
  obtain ⟨S, hS⟩ : ∃ S : Nat, f.satp = S := ⟨f.satp.toNat, by omega⟩
  rw [<- hA, hS]
  have h1 : bits .and .i64 (S : Int) 4194303 = ((S &&& 4194303 : Nat) : Int) := b_and S 4194303 (by omega) (by decide)
  have h2 : S &&& 4194303 = S % 4194304 := Nat.and_two_pow_sub_one_eq_mod S 22
  rw [h1, h2]; rfl)
 clear hf KC c0 c2 c7 c13 mk1 mk2 u1 u2 u3 q1 q2 q4 q5 q6 q8
 by_cases h0 : 0 <= (A : Int) - 524288
 rotate_left
 . have h0' : decide (0 <= (A : Int) - 524288) = false := by simp; omega
   go_wp2_with fail
   go_ret
   exact ⟨⟨tb, b0, b1, b2, b3, b4, rfl, ht.out, fun p hp e => by rw [AE.out] at e; omega⟩, hk.out⟩
 obtain ⟨p, hp⟩ : ∃ p : Nat, (A : Int) - 524288 = p := ⟨((A : Int) - 524288).toNat, by omega⟩
 by_cases h1 : p < n
 rotate_left
 . have h1' : decide ((p : Int) < (n : Int)) = false := by simp; omega
   go_wp2_with fail
   go_ret
   exact ⟨⟨tb, b0, b1, b2, b3, b4, rfl, ht.out, fun p' hp' e => by rw [AE.out] at e; omega⟩, hk.out⟩
 have h1' : decide ((p : Int) < (n : Int)) = true := by simp; omega
 clear h0 ab sa
 go_upto_region 5 with fail
 have nb : ¬ fb ∈ [b0, b1, b2, b3, b4] := fun h => absurd (hfr.out fb h) (by omega)
 have SS := hide1 (fun (W : World) (hW : Kept [] wc W) => (⟨(hW.cell (p := ⟨fb, 0, none⟩) dl (by simp)).trans d0, (hW.cell (p := ⟨fb, 2, none⟩) dl (by simp)).trans d2, (hW.cell (p := ⟨fb, 13, none⟩) dl (by simp)).trans d13⟩ : W.cell? ⟨fb, 0, none⟩ = some (.int .i64 f.mode) /\ W.cell? ⟨fb, 2, none⟩ = some (.int .i64 f.status) /\ W.cell? ⟨fb, 13, none⟩ = some (.string s)))
 have ST := hide1 (fun (W : World) (hW : Kept [b0, b1, b2, b3, b4] wc W) => (⟨(hW.cell (p := ⟨fb, 0, none⟩) dl nb).trans d0, (hW.cell (p := ⟨fb, 2, none⟩) dl nb).trans d2, (hW.cell (p := ⟨fb, 13, none⟩) dl nb).trans d13⟩ : W.cell? ⟨fb, 0, none⟩ = some (.int .i64 f.mode) /\ W.cell? ⟨fb, 2, none⟩ = some (.int .i64 f.status) /\ W.cell? ⟨fb, 13, none⟩ = some (.string s)))
 clear d0 d2 d13
 rcases beqC f.mode 1 with ⟨qa, qb⟩ | ⟨qa, qb⟩
 . refine wp_region_held_drew (S := fun W => W.cell? ⟨fb, 0, none⟩ = some (.int .i64 f.mode) /\ W.cell? ⟨fb, 2, none⟩ = some (.int .i64 f.status) /\ W.cell? ⟨fb, 13, none⟩ = some (.string s)) (by kernel_rfl) (SS.out _ (Kept.refl _ _).drew) (fun hHeld => ?_)
   refine tk 0 45 (.pointer (some ⟨tb, 0, none⟩)) hHeld ?_
   refine tk 1 46 (.pointer (some ⟨fb, 0, none⟩)) hHeld ?_
   refine tk 2 47 (.pointer (some ⟨fb, 0, none⟩)) hHeld ?_
   refine tk 3 48 (.pointer (some ⟨fb, 13, none⟩)) hHeld ?_
   refine tk 4 49 (.string s) hHeld ?_
   refine tk 5 50 (.int .i64 p) hHeld ?_
   refine tk 6 51 (.pointer (some ⟨fb, 0, none⟩)) hHeld ?_
   refine tk 7 52 (.pointer (some ⟨fb, 0, none⟩)) hHeld ?_
   refine tk 8 53 (.pointer (some ⟨fb, 0, none⟩)) hHeld ?_
   refine tk 9 54 (.int .i64 f.mode) hHeld ?_
   refine tk 10 55 (.bool (f.mode == 0)) hHeld ?_
   refine tk 11 56 (.pointer (some ⟨fb, 0, none⟩)) hHeld ?_
   refine tk 12 57 (.pointer (some ⟨fb, 0, none⟩)) hHeld ?_
   refine tk 13 58 (.pointer (some ⟨fb, 0, none⟩)) hHeld ?_
   refine tk 14 59 (.int .i64 f.mode) hHeld ?_
   refine tk 15 60 (.bool true) hHeld ?_
   refine tk 16 61 (.bool true) hHeld ?_
   refine tk 17 62 (.pointer (some ⟨fb, 0, none⟩)) hHeld ?_
   refine tk 18 63 (.pointer (some ⟨fb, 0, none⟩)) hHeld ?_
   refine tk 19 64 (.pointer (some ⟨fb, 2, none⟩)) hHeld ?_
   refine tk 20 65 (.int .i64 f.status) hHeld ?_
   refine tk 21 66 (.int .i64 (f.status / 262144)) hHeld ?_
   refine tk 22 67 (.int .i64 (bits .and .i64 (f.status / 262144) 1)) hHeld ?_
   refine tk 23 68 (.bool (bits .and .i64 (f.status / 262144) 1 == 1)) hHeld ?_
   refine tk 24 69 (.bool (bits .and .i64 (f.status / 262144) 1 == 1)) hHeld ?_
   exact zq433
 . refine wp_region_held_drew (S := fun W => W.cell? ⟨fb, 0, none⟩ = some (.int .i64 f.mode) /\ W.cell? ⟨fb, 2, none⟩ = some (.int .i64 f.status) /\ W.cell? ⟨fb, 13, none⟩ = some (.string s)) (by kernel_rfl) (SS.out _ (Kept.refl _ _).drew) (fun hHeld => ?_)
   refine tk 0 45 (.pointer (some ⟨tb, 0, none⟩)) hHeld ?_
   refine tk 1 46 (.pointer (some ⟨fb, 0, none⟩)) hHeld ?_
   refine tk 2 47 (.pointer (some ⟨fb, 0, none⟩)) hHeld ?_
   refine tk 3 48 (.pointer (some ⟨fb, 13, none⟩)) hHeld ?_
   refine tk 4 49 (.string s) hHeld ?_
   refine tk 5 50 (.int .i64 p) hHeld ?_
   refine tk 6 51 (.pointer (some ⟨fb, 0, none⟩)) hHeld ?_
   refine tk 7 52 (.pointer (some ⟨fb, 0, none⟩)) hHeld ?_
   refine tk 8 53 (.pointer (some ⟨fb, 0, none⟩)) hHeld ?_
   refine tk 9 54 (.int .i64 f.mode) hHeld ?_
   refine tk 10 55 (.bool (f.mode == 0)) hHeld ?_
   refine tk 11 56 (.pointer (some ⟨fb, 0, none⟩)) hHeld ?_
   refine tk 12 57 (.pointer (some ⟨fb, 0, none⟩)) hHeld ?_
   refine tk 13 58 (.pointer (some ⟨fb, 0, none⟩)) hHeld ?_
   refine tk 14 59 (.int .i64 f.mode) hHeld ?_
   refine tk 15 60 (.bool false) hHeld ?_
   refine tk 16 61 (.bool false) hHeld ?_
   refine tk 17 62 undef hHeld ?_ (hy := Or.inr ⟨by kernel_rfl, rfl⟩)
   refine tk 18 63 undef hHeld ?_ (hy := Or.inr ⟨by kernel_rfl, rfl⟩)
   refine tk 19 64 undef hHeld ?_ (hy := Or.inr ⟨by kernel_rfl, rfl⟩)
   refine tk 20 65 undef hHeld ?_ (hy := Or.inr ⟨by kernel_rfl, rfl⟩)
   refine tk 21 66 undef hHeld ?_ (hy := Or.inr ⟨by kernel_rfl, rfl⟩)
   refine tk 22 67 undef hHeld ?_ (hy := Or.inr ⟨by kernel_rfl, rfl⟩)
   refine tk 23 68 undef hHeld ?_ (hy := Or.inr ⟨by kernel_rfl, rfl⟩)
   refine tk 24 69 (.bool false) hHeld ?_
   exact zq433
end
section
variable {T A W F : Nat -> Prop} {C : CsrS} {B : BusS}
def ADs (a b : UInt8) : Prop := b.toNat = a.toNat ||| (b.toNat &&& 192)
structure Fr (W F : Nat -> Prop) (r r' : List UInt8) : Prop where
 len : r'.length = r.length
 b : ∀ i, i < r.length -> W ((i + 2147483648) / 4096) \/ r'.getD i 0 = r.getD i 0 \/ (i % 4 = 0 /\ F (i + 2147483648) /\ ADs (r.getD i 0) (r'.getD i 0))
theorem Fr.refl (W F : Nat -> Prop) (r : List UInt8) : Fr W F r r := ⟨rfl, fun _ _ => .inr (.inl rfl)⟩
theorem ads_trans {a b c : UInt8} (h1 : ADs a b) (h2 : ADs b c) : ADs a c := by
 unfold ADs at *
 apply Nat.eq_of_testBit_eq
 intro i
 have e1 := congrArg (fun x => Nat.testBit x i) h1
 have e2 := congrArg (fun x => Nat.testBit x i) h2
 simp only [Nat.testBit_or, Nat.testBit_and] at e1 e2 |-
 have all : ∀ a b c m : Bool, b = (a || (b && m)) -> c = (b || (c && m)) -> c = (a || (c && m)) := by decide
 exact all _ _ _ _ e1 e2
theorem Fr.trans {W F : Nat -> Prop} {r r' r'' : List UInt8} (h1 : Fr W F r r') (h2 : Fr W F r' r'') : Fr W F r r'' := by
 refine ⟨h2.len.trans h1.len, fun i hi => ?_⟩
 rcases h1.b i hi with a | a | a
 . exact .inl a
 . rcases h2.b i (by rw [h1.len]; exact hi) with q | q | q
   . exact .inl q
   . exact .inr (.inl (q.trans a))
   . rw [a] at q; exact .inr (.inr q)
 . rcases h2.b i (by rw [h1.len]; exact hi) with q | q | q
   . exact .inl q
   . rw [q]; exact .inr (.inr a)
   . exact .inr (.inr ⟨a.1, a.2.1, ads_trans a.2.2 q.2.2⟩)
def adC (a d : Nat) : Bool := (a + d == (a ||| (a + d &&& 192))) && Nat.blt (a + d) 256
theorem ad_all : ((List.range 256).all fun a => (!(a / 64 % 2 == 0) || adC a 64) && (!(a / 128 % 2 == 0) || adC a 128) && (!(a / 64 % 2 == 0 && a / 128 % 2 == 0) || adC a 192)) = true := by decide +kernel
theorem adC_of {a d : Nat} (h : adC a d = true) : a + d = a ||| (a + d &&& 192) /\ a + d < 256 := by
 unfold adC at h
 rw [Bool.and_eq_true] at h
 exact ⟨by simpa using h.1, by have := h.2; unfold Nat.blt at this; exact Nat.le_of_ble_eq_true this⟩
theorem ad_byte (a : Nat) (ha : a < 256) : (a / 64 % 2 = 0 -> a + 64 = a ||| (a + 64 &&& 192) /\ a + 64 < 256) /\ (a / 128 % 2 = 0 -> a + 128 = a ||| (a + 128 &&& 192) /\ a + 128 < 256) /\ (a / 64 % 2 = 0 -> a / 128 % 2 = 0 -> a + 192 = a ||| (a + 192 &&& 192) /\ a + 192 < 256) := by
 have h := List.all_eq_true.1 ad_all a (List.mem_range.2 ha)
 simp only [Bool.and_eq_true, Bool.or_eq_true, Bool.not_eq_true', beq_eq_false_iff_ne, Bool.and_eq_false_iff] at h
 refine ⟨fun h6 => adC_of (h.1.1.resolve_left (fun q => q h6)), fun h7 => adC_of (h.1.2.resolve_left (fun q => q h7)), fun h6 h7 => adC_of (h.2.resolve_left (fun q => q.elim (fun q => q h6) (fun q => q h7)))⟩
theorem getD_st (n : Nat) (r : List UInt8) (p v j : Nat) (h : p + n <= r.length) : (stN r p n v).getD j 0 = if p <= j /\ j < p + n then UInt8.ofNat (v / 256 ^ (j - p)) else r.getD j 0 := by
 rw [List.getD_eq_getElem?_getD, st_get n r p v j h, List.getD_eq_getElem?_getD]
 split <;> rfl
theorem fr_mkP (W F : Nat -> Prop) (r : List UInt8) (p e k : Nat) (hF : F (p + 2147483648)) (al : p % 4 = 0) (hl : p + 4 <= r.length) (he : ldN ((r.drop p).take 4) = e) : Fr W F r (stN r p 4 (e + adB (bitN e 6) (bitN e 7) k)) := by
 refine ⟨stN_length _ _ _ _, fun i hi => ?_⟩
 rw [getD_st 4 _ _ _ _ hl]
 split
 . next hp =>
   have e0 : e = (r.getD p 0).toNat + 256 * ((r.getD (p + 1) 0).toNat + 256 * ((r.getD (p + 2) 0).toNat + 256 * (r.getD (p + 3) 0).toNat)) := by
    rw [<- he]
    refine ld_of _ _ _ _ _ ?_
    apply List.ext_getElem?
    intro j
    rw [List.getElem?_take]
    by_cases hj : j < 4
    . rw [if_pos hj, List.getElem?_drop, List.getElem?_eq_getElem (by omega)]
      have : j = 0 \/ j = 1 \/ j = 2 \/ j = 3 := by omega
      rcases this with rfl | rfl | rfl | rfl <;> simp [List.getD_eq_getElem?_getD, List.getElem?_eq_getElem (show p < r.length by omega), List.getElem?_eq_getElem (show p + 1 < r.length by omega), List.getElem?_eq_getElem (show p + 2 < r.length by omega), List.getElem?_eq_getElem (show p + 3 < r.length by omega)]
    . rw [if_neg hj, List.getElem?_eq_none (by simp; omega)]
   clear he
   obtain ⟨d, hd⟩ := zn1 (adB (bitN e 6) (bitN e 7) k)
   rw [<- hd]
   have hd' : d = 0 \/ (d = 64 /\ e / 64 % 2 = 0) \/ (d = 128 /\ e / 128 % 2 = 0) \/ (d = 192 /\ e / 64 % 2 = 0 /\ e / 128 % 2 = 0) := by
    rw [hd]
    unfold adB bitN
    by_cases h6 : e / 64 % 2 = 1 <;> by_cases h7 : e / 128 % 2 = 1 <;> by_cases hk : k = 2 <;> simp [h6, h7, hk] <;> omega
   clear hd
   have b0 := (r.getD p 0).toNat_lt
   have b1 := (r.getD (p + 1) 0).toNat_lt
   have b2 := (r.getD (p + 2) 0).toNat_lt
   have b3 := (r.getD (p + 3) 0).toNat_lt
   have ab := ad_byte _ b0
   by_cases hj : i = p
   . subst hj
     right; right
     refine ⟨al, hF, ?_⟩
     unfold ADs
     rw [Nat.sub_self, Nat.pow_zero, Nat.div_one, u8n]
     generalize (r.getD i 0).toNat = x at *
     rcases hd' with h | h | h | h
     . have : (e + d) % 256 = x := by omega
       rw [this]
       apply Nat.eq_of_testBit_eq
       intro t
       rw [Nat.testBit_or, Nat.testBit_and]
       cases x.testBit t <;> simp
     . have := ab.1 (by omega)
       have e2 : (e + d) % 256 = x + 64 := by omega
       rw [e2]; exact this.1
     . have := ab.2.1 (by omega)
       have e2 : (e + d) % 256 = x + 128 := by omega
       rw [e2]; exact this.1
     . have := ab.2.2 (by omega) (by omega)
       have e2 : (e + d) % 256 = x + 192 := by omega
       rw [e2]; exact this.1
   . right; left
     apply UInt8.toNat_inj.1
     rw [u8n]
     have hi3 : i = p + 1 \/ i = p + 2 \/ i = p + 3 := by omega
     have hx : (r.getD p 0).toNat + d < 256 := by
      rcases hd' with h | h | h | h
      . omega
      . have := (ab.1 (by omega)).2; omega
      . have := (ab.2.1 (by omega)).2; omega
      . have := (ab.2.2 (by omega) (by omega)).2; omega
     clear ab hd'
     generalize (r.getD p 0).toNat = x at *
     rcases hi3 with rfl | rfl | rfl
     . rw [show p + 1 - p = 1 by omega, Nat.pow_one]
       generalize (r.getD (p + 1) 0).toNat = y at *
       omega
     . rw [show p + 2 - p = 2 by omega, show 256 ^ 2 = 65536 from rfl]
       generalize (r.getD (p + 2) 0).toNat = y at *
       omega
     . rw [show p + 3 - p = 3 by omega, show 256 ^ 3 = 16777216 from rfl]
       generalize (r.getD (p + 3) 0).toNat = y at *
       omega
 . exact .inr (.inl rfl)
theorem fr_mk (W F : Nat -> Prop) (B : BusS) (a k : Nat) (hF : F a) (al : a % 4 = 0) (hh : holdsD (a : Nat) 4 B.ram.length = true) : Fr W F B.ram (mkA B a k).ram := by
 have q := holdsD_at hh
 unfold mkA
 split
 . exact Fr.refl _ _ _
 . dsimp only
   unfold entE rdRam
   obtain ⟨p, hp⟩ := zn2 (a - 2147483648)
   rw [hp] at q |-
   exact fr_mkP W F B.ram p _ k (by rw [<- hp, Nat.sub_add_cancel q.1]; exact hF) (by omega) q.2 rfl
theorem fr_st (W F : Nat -> Prop) (r : List UInt8) (pa n v : Nat) (h1 : 2147483648 <= pa) (h2 : pa - 2147483648 + n <= r.length) (hi : pa % 4096 + n <= 4096) (hW : W (pa / 4096)) : Fr W F r (stN r (pa - 2147483648) n v) := by
 refine ⟨stN_length _ _ _ _, fun i hi' => ?_⟩
 rw [getD_st n _ _ _ _ h2]
 split
 . next hp =>
   left
   rw [show (i + 2147483648) / 4096 = pa / 4096 by omega]; exact hW
 . exact .inr (.inl rfl)
structure Wal (T A W F : Nat -> Prop) (C : CsrS) (B : BusS) : Prop where
 clo : Clo T A W F C B
 pg : Pgd C
variable {T A W F : Nat -> Prop} {C : CsrS} {B : BusS}
theorem Wal.wtr (h : Wal T A W F C B) (va k : Nat) : Wal T A W F C (trD B C va k).2 /\ Fr W F B.ram (trD B C va k).2.ram /\ ((trD B C va k).1.2 = 0 -> (k = 2 -> W ((trD B C va k).1.1 / 4096)) /\ (trD B C va k).1.1 % 4096 = va % 4096) := by
 have q := tr_ok' h.clo h.pg va k
 refine ⟨⟨q.clo, h.pg⟩, ?_, fun e => (q.pg e).2⟩
 rcases q.mkd with e | ⟨a, a1, a2, a3, a4, e⟩
 . rw [e]; exact Fr.refl _ _ _
 . rw [e]; exact fr_mk W F B a k a1 a3 a4
theorem Wal.whf (h : Wal T A W F C B) (va : Nat) : Wal T A W F C (halfD B C va).2 /\ Fr W F B.ram (halfD B C va).2.ram := by
 obtain ⟨a, b, _⟩ := h.wtr va 0
 unfold halfD halfP
 repeat' split
 all_goals exact ⟨a, b⟩
theorem Wal.wfe (h : Wal T A W F C B) (pc : Nat) : Wal T A W F C (fetchD B C pc).2 /\ Fr W F B.ram (fetchD B C pc).2.ram := by
 obtain ⟨a1, b1⟩ := h.whf pc
 obtain ⟨a2, b2⟩ := a1.whf ((pc + 2) % 4294967296)
 unfold fetchD
 split
 . split
   . split
     . exact ⟨a2, b1.trans b2⟩
     . exact ⟨a2, b1.trans b2⟩
   . exact ⟨a1, b1⟩
 . exact ⟨a1, b1⟩
structure Pow (W : Nat -> Prop) (pa n : Nat) : Prop where
 w : W (pa / 4096)
 in' : pa % 4096 + n <= 4096
theorem Wal.wre (h : Wal T A W F C B) (va n k : Nat) (hn : n <= 4) (hn1 : 1 <= n) : Fr W F B.ram (reachD B C va n k).2.ram /\ (k = 2 -> (reachD B C va n k).1.fault = 0 -> Pow W (reachD B C va n k).1.pa1 (reachD B C va n k).1.n1 /\ (0 < (reachD B C va n k).1.n2 -> Pow W (reachD B C va n k).1.pa2 (reachD B C va n k).1.n2)) := by
 obtain ⟨s1, f1, p1⟩ := h.wtr va k
 obtain ⟨s2, f2, p2⟩ := s1.wtr ((va + roomD va n) % 4294967296) k
 have r1 : roomD va n <= 4096 - va % 4096 /\ roomD va n <= n /\ (roomD va n < n -> roomD va n = 4096 - va % 4096) := zq6
 unfold reachD
 obtain ⟨r, hr⟩ := zn1 (roomD va n)
 rw [<- hr] at r1 s2 f2 p2 |-
 obtain ⟨t, ht⟩ := zn1 (trD B C va k)
 rw [<- ht] at s1 f1 p1 s2 f2 p2 |-
 unfold reach1
 obtain ⟨u, hu⟩ := zn1 (trD t.2 C ((va + r) % 4294967296) k)
 rw [<- hu] at s2 f2 p2 |-
 split
 . next h0 =>
   have q1 := p1 h0
   split
   . split
     . next hlt =>
       unfold reach2
       split
       . next h2 =>
         have q2 := p2 h2
         split
         . exact ⟨f1.trans f2, fun hk _ => ⟨⟨q1.1 hk, by dsimp only; omega⟩, fun _ => ⟨q2.1 hk, by dsimp only; omega⟩⟩⟩
         . exact ⟨f1.trans f2, fun _ f => absurd f zq539⟩
       . next h2 => exact ⟨f1.trans f2, fun _ f => absurd f h2⟩
     . exact ⟨f1, fun hk _ => ⟨⟨q1.1 hk, by dsimp only; omega⟩, fun f => absurd f zq539⟩⟩
   . exact ⟨f1, fun _ f => absurd f zq539⟩
 . next h0 => exact ⟨f1, fun _ f => absurd f h0⟩
theorem read_ram (B : BusS) (pa n : Int) : (readD B pa n).2.ram = B.ram := by
 unfold readD
 split
 . rfl
 . split
   . exact readV_ram _ _
   . rfl
theorem load_ram (B : BusS) (s : Spn) : (loadD B s).2.ram = B.ram := by
 unfold loadD
 split
 . dsimp only; rw [read_ram, read_ram]
 . exact read_ram _ _ _
theorem Pow.wr8 {pa n : Nat} (h : Pow W pa n) (B : BusS) (x : Nat) : Fr W F B.ram (writeD B pa n x).ram := by
 unfold writeD
 split
 . next hh =>
   have := holds_at hh
   have e2 : ((pa : Int) - 2147483648).toNat = pa - 2147483648 := by omega
   have e3 : ((n : Nat) : Int).toNat = n := Int.toNat_natCast n
   dsimp only
   rw [e2, e3]
   exact fr_st W F B.ram pa n x this.1 this.2.1 h.in' h.w
 . split
   . rw [writeV_ram]; exact Fr.refl _ _ _
   . exact Fr.refl _ _ _
theorem fr_store (B : BusS) (s : Spn) (x : Nat) (h1 : Pow W s.pa1 s.n1) (h2 : 0 < s.n2 -> Pow W s.pa2 s.n2) : Fr W F B.ram (storeD B s x).ram := by
 unfold storeD
 split
 . next h => exact (h1.wr8 B x).trans ((h2 h).wr8 _ _)
 . exact h1.wr8 B x
end
theorem pk_list (r : List UInt8) : (pkB r 0 r.length).data.toList = r := by
 unfold pkB
 rw [List.drop_zero, List.take_length]
 unfold strOfNums
 simp [Function.comp_def]
theorem ent_ldS (B : BusS) (a : Nat) : entE B a = ldS (pkB B.ram 0 B.ram.length) (a - 2147483648) := by
 unfold entE rdRam ldS
 rw [pk_list]
def PgM (w : World) (b n P : Nat) : Prop := ∀ p, p < n -> P = p + 524288 -> Tru w b p
def LfM (w : World) (b a : Nat) : Prop := Tru w b ((a - 2147483648) / 4)
theorem mine_eq {X : XS} (hX : XInv X) {f : Fc} (hf : FcX X f) (h3 : X.mode ≠ 3) (e : Nat) : mineB (xC X) e = ((bitN e 4 == (f.mode == 0)) || (bitN e 4 && (f.mode == 1 && (bits .and .i64 (f.status / 262144) 1 == 1)))) := by
 have hs : f.status = ((X.c.mstatus : Nat) : Int) := hf.status
 have hb : (bits .and .i64 (f.status / 262144) 1 == 1) = bitN X.c.mstatus 18 := bit_tst X.c.mstatus 18 hX.ok.mstatus _ (by rw [hs]; rfl)
 have hm := hf.mode
 have e1 : (f.mode == 0) = decide (X.mode = 0) := by rw [hm, Bool.eq_iff_iff]; simp
 have e2 : (f.mode == 1) = decide (X.mode = 1) := by rw [hm, Bool.eq_iff_iff]; simp; omega
 have e3 : decide ((xC X).sum = 1) = bitN X.c.mstatus 18 := rfl
 have e4 : (xC X).mode = X.mode := rfl
 rw [hb, e1, e2]
 unfold mineB
 rw [e3, e4]
 have := hX.ok.mode
 rcases this with h | h | h
 . rw [h]; cases bitN e 4 <;> cases bitN X.c.mstatus 18 <;> rfl
 . rw [h]; cases bitN e 4 <;> cases bitN X.c.mstatus 18 <;> rfl
 . exact absurd h h3
theorem clo_of {X : XS} (hX : XInv X) {f : Fc} (hf : FcX X f) (h3 : X.mode ≠ 3) {w : World} {tb b0 b1 b2 b3 b4 n m : Nat} (hn : n = (X.b.ram.length + 4095) / 4096) (hr : Rt w tb b0 b1 b2 b3 b4 n m f) : Clo (PgM w b0 n) (PgM w b1 n) (PgM w b2 n) (LfM w b3) (xC X) X.b := by
 have hsz : (pkB X.b.ram 0 X.b.ram.length).size = X.b.ram.length := pkB_size _ _ _ (by omega)
 have hsat : f.satp = ((X.c.satp : Nat) : Int) := hf.satp
 have hC : (xC X).satp = X.c.satp := rfl
 have key : ∀ p : Nat, p < n -> X.c.satp % 4194304 = p + 524288 -> ∃ w0, RI w0 w tb b0 b1 b2 b3 b4 n m (f.mode == 0) (f.mode == 1 && (bits .and .i64 (f.status / 262144) 1 == 1)) (pkB X.b.ram 0 X.b.ram.length) p 1024 := by
  intro p hp e
  have := hr p hp (by rw [hsat]; omega)
  rw [hf.ram] at this
  exact this
 -- an entry's place
 have pl : ∀ P a e, EntOf X.b P a e -> ∃ p k, p < n /\ k < 1024 /\ P = p + 524288 /\ a - 2147483648 = p * 4096 + 4 * k /\ p * 4096 + 4 * k + 4 <= X.b.ram.length /\ ldS (pkB X.b.ram 0 X.b.ram.length) (p * 4096 + 4 * k) = e := by
  intro P a e h
  have h1 := holdsD_at h.h
  have h2 := h.al
  have h4 := h.pg
  refine ⟨(a - 2147483648) / 4096, a % 4096 / 4, by omega, by omega, by omega, by omega, by omega, ?_⟩
  have := h.e
  rw [ent_ldS] at this
  rw [show (a - 2147483648) / 4096 * 4096 + 4 * (a % 4096 / 4) = a - 2147483648 by omega]
  exact this
 refine ⟨?_, ?_, ?_⟩
 . intro p hp e
   obtain ⟨w0, h⟩ := key p hp e
   exact h.t0
 . intro a e h lf
   obtain ⟨p, k, hp, hk, e1, e2, e3, e4⟩ := pl _ a e h
   obtain ⟨w0, R⟩ := key p hp e1
   have := R.rd k hk (by rw [hsz]; exact e3)
   unfold Ent at this
   rw [e4] at this
   have := this lf
   refine ⟨?_, fun hm j hj => ⟨fun q hq e5 => ?_, fun hw q hq e5 => ?_⟩⟩
   . unfold LfM; rw [e2]; exact this.1
   . rw [mine_eq hX hf h3] at hm
     exact (this.2 hm j hj q e5 hq).1
   . rw [mine_eq hX hf h3] at hm
     exact (this.2 hm j hj q e5 hq).2 hw
 . intro a e h b0' b1' b3'
   obtain ⟨p, k, hp, hk, e1, e2, e3, e4⟩ := pl _ a e h
   obtain ⟨w0, R⟩ := key p hp e1
   have hpt := R.pt k hk (by rw [hsz]; exact e3)
   rw [e4] at hpt
   have hlo : ∀ q, e / 1024 = q + 524288 -> q < n -> Tru w b0 q /\ Rds w b1 b2 b3 n (f.mode == 0) (f.mode == 1 && (bits .and .i64 (f.status / 262144) 1 == 1)) (pkB X.b.ram 0 X.b.ram.length) q 1 1024 := fun q h1 h2 => R.lo q h2 (hpt ⟨b0', b1', b3'⟩ q h1 h2)
   refine ⟨fun q hq h1 => (hlo q h1 hq).1, fun a' e' h' lf => ?_⟩
   obtain ⟨p', k', hp', hk', g1, g2, g3, g4⟩ := pl _ a' e' h'
   have := (hlo p' g1 hp').2 k' hk' (by rw [hsz]; exact g3)
   unfold Ent at this
   rw [g4] at this
   have := this lf
   refine ⟨?_, fun hm => ⟨fun q hq e5 => ?_, fun hw q hq e5 => ?_⟩⟩
   . unfold LfM; rw [g2]; exact this.1
   . rw [mine_eq hX hf h3] at hm
     exact (this.2 hm 0 (by omega) q e5 hq).1
   . rw [mine_eq hX hf h3] at hm
     exact (this.2 hm 0 (by omega) q e5 hq).2 hw
theorem pgd_of {X : XS} (hX : XInv X) {f : Fc} (hf : FcX X f) (h : (!(f.mode == 3) && (f.satp / 2147483648 == 1)) = true) : Pgd (xC X) /\ X.mode ≠ 3 := by
 have hsat : f.satp = ((X.c.satp : Nat) : Int) := hf.satp
 have hm := hf.mode
 rw [Bool.and_eq_true, hsat, hm] at h
 have h3 : X.mode ≠ 3 := by intro e; rw [e] at h; simp at h
 have h4 : 2147483648 <= X.c.satp := by have := h.2; simp at this; omega
 refine ⟨⟨?_, ?_, h4⟩, h3⟩
 . have := hX.ok.mode
   show X.mode = 0 \/ X.mode = 1
   omega
 . have := hX.mpv h3
   show X.c.mstatus / 2 ^ 17 % 2 = 0
   rw [Nat.testBit_eq_decide_div_mod_eq] at this
   simp at this
   omega
def oneB (v : Int) : ByteArray := ⟨#[UInt8.ofNat v.toNat]⟩
section
variable {T A W F : Nat -> Prop} {X : XS}
theorem setXR_bus (Y : XS) (d u : Nat) : (setXR Y d u).b = Y.b := by unfold setXR; split <;> rfl
theorem ccr_bus (X : XS) (i : NI) : (ccrX X i).b = X.b := by
 have hs : ∀ d v, (setXR X d v).b = X.b := setXR_bus X
 have ite : ∀ {c : Prop} [Decidable c] {Y Z : XS} {m : BusS}, Y.b = m -> Z.b = m -> (if c then Y else Z).b = m := by
  intro c _ Y Z m h1 h2; split <;> assumption
 exact zq397
theorem cro_fr (h : Wal T A W F (xC X) X.b) (i : NI) (v : Nat) : Fr W F X.b.ram (croX X i v).2.b.ram := by
 have hn := nD_le i.op
 unfold croX
 split
 . rw [setXR_bus]; exact Fr.refl _ _ _
 split
 . exact Fr.refl _ _ _
 split
 . have q := (h.wre (vaD X i) (nD i.op) 1 hn.2 hn.1).1
   unfold ldX ldF
   split
   . rw [setXR_bus]
     show Fr W F X.b.ram (loadD _ _).2.ram
     rw [load_ram]; exact q
   . exact q
 split
 . obtain ⟨q, p⟩ := h.wre (vaD X i) (nD i.op) 2 hn.2 hn.1
   unfold stX stF
   split
   . next f =>
     have := p rfl f
     exact q.trans (fr_store _ _ _ this.1 this.2)
   . exact q
 split
 . unfold atX
   split
   . next hal =>
     obtain ⟨s, f, p⟩ := h.wtr (X.x.getD i.rs1 0) (kD i.op)
     unfold wordAtD
     obtain ⟨t, ht⟩ := zn1 (trD X.b (xC X) (X.x.getD i.rs1 0) (kD i.op))
     rw [<- ht] at s f p |-
     unfold wordAtP
     split
     . next h0 =>
       have q := p h0
       split
       . next hh =>
         unfold atF
         rw [if_pos h0]
         dsimp only
         have hp := holdsD_at hh
         have st : kD i.op = 2 -> ∀ z, Fr W F t.2.ram (stN t.2.ram (t.1.1 - 2147483648) 4 z) := fun hk z => fr_st W F _ t.1.1 4 z hp.1 hp.2 (by omega) (q.1 hk)
         unfold atG
         split
         . show Fr W F X.b.ram (setXR _ _ _).b.ram
           rw [setXR_bus]; exact f
         . next h50 =>
           have hk : kD i.op = 2 := by unfold kD; rw [if_neg h50]
           split
           . show Fr W F X.b.ram (setXR _ _ _).b.ram
             rw [setXR_bus]
             cases scB (X.withB t.2) t.1.1
             . exact f.trans (st hk _)
             . exact f
           . unfold amoX
             rw [setXR_bus]
             exact f.trans (st hk _)
       . unfold atF
         rw [if_neg (by dsimp only; omega)]
         exact f
     . next h0 =>
       unfold atF
       rw [if_neg h0]
       exact f
   . exact Fr.refl _ _ _
 split
 . exact Fr.refl _ _ _
 split
 . exact Fr.refl _ _ _
 split
 . show Fr W F X.b.ram (ccrX X i).b.ram
   rw [ccr_bus]; exact Fr.refl _ _ _
 split
 . have : (prvX X i.op).b = X.b := by unfold prvX; (repeat' split) <;> rfl
   show Fr W F X.b.ram (prvX X i.op).b.ram
   rw [this]; exact Fr.refl _ _ _
 . exact Fr.refl _ _ _
theorem ins_fr (h : Wal T A W F (xC X) X.b) : Fr W F X.b.ram (insX X).2.b.ram := by
 obtain ⟨s, f⟩ := h.wfe X.pc
 unfold insX
 split
 . split
   . unfold insR
     have s' : Wal T A W F (xC (X.withB (fetchD X.b (xC X) X.pc).2)) (X.withB (fetchD X.b (xC X) X.pc).2).b := s
     have q := cro_fr s' (niOf (decodeD (fetchD X.b (xC X) X.pc).1.w).1) (fetchD X.b (xC X) X.pc).1.w
     split
     . exact f.trans q
     . exact f.trans q
   . exact f
 . exact f
theorem te_bus (Y : XS) (c t : Nat) : (teX Y c t).b = Y.b /\ (tiX Y c).b = Y.b := by
 unfold teX tiX
 constructor <;> split <;> rfl
theorem step_fr (h : Wal T A W F (xC X) X.b) (hX : XInv X) : Fr W F X.b.ram (stepX X).2.b.ram := by
 have q : Fr W F X.b.ram (insX (wakX X)).2.b.ram := ins_fr (X := wakX X) h
 rcases step_is hX with ⟨_, _, e⟩ | ⟨c, _, _, e⟩ | ⟨_, _, _, e⟩ | ⟨_, c, _, _, _, e⟩
 . rw [e]; exact Fr.refl _ _ _
 . rw [e]
   show Fr W F X.b.ram (tiX (wakX X) c).b.ram
   rw [(te_bus _ _ 0).2]; exact Fr.refl _ _ _
 . rw [e]; exact q
 . rw [e]
   show Fr W F X.b.ram (teX (insX (wakX X)).2 c (insX (wakX X)).1.2.2).b.ram
   rw [(te_bus _ _ _).1]; exact q
def Wld (w : World) (b2 b3 : Nat) (f g : ByteArray) : Prop := ∀ i (h1 : i < f.size) (h2 : i < g.size), f[i] = g[i] \/ Tru w b2 (i / 4096) \/ (i % 4 = 0 /\ Tru w b3 (i / 4) /\ ADs f[i] g[i])
theorem pk_get' (r : List UInt8) (n : Nat) (h : n < (pkB r 0 r.length).size) : (pkB r 0 r.length)[n] = r.getD n 0 := by
 have h2 : n < r.length := by rw [pkB_size _ _ _ (by omega)] at h; exact h
 have : (pkB r 0 r.length)[n] = (pkB r 0 r.length).data.toList[n]'(by rw [pk_list]; exact h2) := rfl
 rw [this, List.getD_eq_getElem?_getD, List.getElem?_eq_getElem h2]
 simp [pk_list]
theorem wld_of {X : XS} (hX : XInv X) {f g : Fc} (fx : FcX X f) (gx : FcX (stepX X).2 g) (hp : (!(f.mode == 3) && (f.satp / 2147483648 == 1)) = true) {w : World} {tb b0 b1 b2 b3 b4 n m : Nat} (hn : n = (X.b.ram.length + 4095) / 4096) (hr : Rt w tb b0 b1 b2 b3 b4 n m f) : Wld w b2 b3 f.ram g.ram := by
 have pg := pgd_of hX fx hp
 have cl := clo_of hX fx pg.2 hn hr
 have q := step_fr ⟨cl, pg.1⟩ hX
 have e1 := fx.ram
 have e2 := gx.ram
 generalize f.ram = R at e1
 generalize g.ram = S at e2
 subst e1 e2
 intro i h1 h2
 rw [pk_get', pk_get']
 have h3 : i < X.b.ram.length := by rw [pkB_size _ _ _ (by omega)] at h1; exact h1
 rcases q.b i h3 with a | a | a
 . right; left
   exact a (i / 4096) (by omega) (by omega)
 . left; exact a.symm
 . right; right
   have l : Tru w b3 ((i + 2147483648 - 2147483648) / 4) := a.2.1
   rw [Nat.add_sub_cancel] at l
   exact ⟨a.1, l, a.2.2⟩
end
section
attribute [local go_sem ↓] Go.wp_at_zero Go.wp_at_succ
theorem bv8 (a : Nat) (h : a < 256) : (BitVec.ofInt 8 (a : Int)).toNat = a := by
 rw [BitVec.toNat_ofInt]
 have e : ((2 ^ 8 : Nat) : Int) = 256 := by decide
 rw [e, Int.emod_eq_of_lt (by omega) (by omega)]; omega
theorem w8 (a : Nat) (h : a < 256) : IntKind.u8.wrap (a : Int) = a := by rw [IntKind.wrap_u8]; omega
theorem ads_bits (a b : UInt8) (h : ADs a b) : bits .or .u8 (a.toNat : Int) (bits .and .u8 (b.toNat : Int) 192) = (b.toNat : Int) := by
 have ha := a.toNat_lt
 have hb := b.toNat_lt
 have h1 : bits .and .u8 (b.toNat : Int) 192 = ((b.toNat &&& 192 : Nat) : Int) := by
  have hx : bits .and .u8 (b.toNat : Int) ((192 : Nat) : Int) = IntKind.u8.wrap (((BitVec.ofInt 8 (b.toNat : Int) &&& BitVec.ofInt 8 ((192 : Nat) : Int)).toNat : Nat) : Int) := rfl
  have hx' : bits .and .u8 (b.toNat : Int) 192 = bits .and .u8 (b.toNat : Int) ((192 : Nat) : Int) := rfl
  rw [hx', hx, BitVec.toNat_and, bv8 _ hb, bv8 _ (by decide)]
  exact w8 _ (Nat.lt_of_le_of_lt Nat.and_le_left hb)
 have l : b.toNat &&& 192 < 256 := Nat.lt_of_le_of_lt Nat.and_le_left hb
 rw [h1]
 have hx : bits .or .u8 (a.toNat : Int) ((b.toNat &&& 192 : Nat) : Int) = IntKind.u8.wrap (((BitVec.ofInt 8 (a.toNat : Int) ||| BitVec.ofInt 8 ((b.toNat &&& 192 : Nat) : Int)).toNat : Nat) : Int) := rfl
 rw [hx, BitVec.toNat_or, bv8 _ ha, bv8 _ l, <- show b.toNat = a.toNat ||| (b.toNat &&& 192) from h]
 exact w8 _ hb
theorem Wld.kept {w w' : World} {b2 b3 : Nat} {f g : ByteArray} (h : Wld w b2 b3 f g) (hk : Kept [] w w') (l2 : b2 < w.heap.size) (l3 : b3 < w.heap.size) : Wld w' b2 b3 f g := fun i h1 h2 => by
 rcases h i h1 h2 with a | a | a
 . exact .inl a
 . exact .inr (.inl (Up.kept hk _ _ l2 a))
 . exact .inr (.inr ⟨a.1, Up.kept hk _ _ l3 a.2.1, a.2.2⟩)
def Wm (w0 : World) (fb gb : Nat) (f g : Fc) (tb b0 b1 b2 b3 b4 n m : Nat) (w : World) : Prop := BoxF w fb f.l /\ BoxF w gb g.l /\ Tabs w tb b0 b1 b2 b3 b4 n m /\ Kept [] w0 w /\ Wld w b2 b3 f.ram g.ram
theorem Wm.drewN {w0 : World} {fb gb : Nat} {f g : Fc} {tb b0 b1 b2 b3 b4 n m : Nat} {w : World} (h : Wm w0 fb gb f g tb b0 b1 b2 b3 b4 n m w) (k : Nat) : Wm w0 fb gb f g tb b0 b1 b2 b3 b4 n m (w.drewN k) :=
 have hk : Kept [] w (w.drewN k) := (Kept.refl [] w).drewN k
 ⟨h.1.kept hk, h.2.1.kept hk, h.2.2.1.kept hk, h.2.2.2.1.trans hk, h.2.2.2.2.kept hk h.2.2.1.s2.lt h.2.2.1.s3.lt⟩
set_option maxRecDepth 100000 in
theorem k_walledT (fb gb z : Nat) (X : XS) (hX : XInv X) (hzz : X.b.ram.length = z) (f g : Fc) (fx : FcX X f) (gx : FcX (stepX X).2 g) (hz : z <= 65536) (hf1 : FcOk f z) (hg1 : FcOk g z) (w : World) (hf : Hid (BoxF w fb f.l)) (hg : Hid (BoxF w gb g.l)) : CK 60 #[.pointer (some ⟨fb, 0, none⟩), .pointer (some ⟨gb, 0, none⟩)] (.bool true) w := by
 have WD : Hid ((!(f.mode == 3) && (f.satp / 2147483648 == 1)) = true -> ∀ W tb b0 b1 b2 b3 b4, Rt W tb b0 b1 b2 b3 b4 ((z + 4095) / 4096) (z / 4 + 1) f -> Wld W b2 b3 f.ram g.ram) := hide1 (fun hp W tb b0 b1 b2 b3 b4 hr => wld_of hX fx gx hp (by rw [hzz]) hr)
 clear hX fx gx hzz
 have PG := hide1 (k_paged fb f w hf)
 have TO := hide1 (fun W hW => k_tablesOf fb z f hz hf1 W hW)
 have c13 := hf.out.cell 13 _ rfl
 have d13 := hg.out.cell 13 _ rfl
 have cl := hf.out.lt
 have dl := hg.out.lt
 have sf := hf1.ram
 have sg := hg1.ram
 obtain ⟨S, hS⟩ := zn1 (f.ram)
 obtain ⟨G, hG⟩ := zn1 (g.ram)
 have CF := hide1 (fun (W : World) (h : BoxF W fb f.l) => (h.cell 13 _ rfl : W.cell? ⟨fb, 13, none⟩ = some (.string f.ram)))
 have CG := hide1 (fun (W : World) (h : BoxF W gb g.l) => (h.cell 13 _ rfl : W.cell? ⟨gb, 13, none⟩ = some (.string g.ram)))
 rw [<- hS] at c13 sf CF
 rw [<- hG] at d13 sg CG
 obtain ⟨n, hn⟩ := zn1 ((z + 4095) / 4096 : Nat)
 obtain ⟨m, hm⟩ := zn1 (z / 4 + 1 : Nat)
 rw [<- hn, <- hm] at TO WD
 have HN := hide1 hn
 have HM := hide1 hm
 have SF := hide1 sf
 have SG := hide1 sg
 have WS : Hid (∀ W b2 b3, Wld W b2 b3 f.ram g.ram -> Wld W b2 b3 S G) := hide1 (by rw [hS, hG]; exact fun _ _ _ h => h)
 clear hS hG hn hm hf1 hg1 sf sg
 go_enter func60, ntmps60
 go_wp2_with fail
 refine PG.out.mono ?_
 rintro o w1 ⟨rfl, hw1⟩
 rw [hw1]
 obtain ⟨on, hon⟩ := zn2 ((!(f.mode == 3) && (f.satp / 2147483648 == 1)))
 rw [hon]
 rw [hon] at WD
 clear hon
 clear hw1 w1 PG
 cases on
 . clear WD
   exact zq434
 cases hq : (S.toList == G.toList)
 rotate_left
 . exact zq434
 go_upto_region 2 with fail
 go_quiet (fail)
 all_goals
  have hf2 : Hid (BoxF (w.drewN nq) fb f.l) := hide1 (hf.out.kept ((Kept.refl [] w).drewN nq))
  have hg2 : Hid (BoxF (w.drewN nq) gb g.l) := hide1 (hg.out.kept ((Kept.refl [] w).drewN nq))
  have T1 := hide1 (TO.out _ hf2)
  clear TO hf hg c13 d13
  go_wp2_with fail
  refine T1.out.mono ?_
  rintro o w2 ⟨⟨tb, b0, b1, b2, b3, b4, rfl, htb, hrt⟩, hk2⟩
  have W2 : Hid (Wm w fb gb f g tb b0 b1 b2 b3 b4 n m w2) := hide1 ⟨hf2.out.kept hk2, hg2.out.kept hk2, htb, ((Kept.refl [] w).drewN nq).trans hk2, WD.out (by trivial) _ _ _ _ _ _ _ hrt⟩
  clear hf2 hg2 T1 htb hk2 hrt WD
  go_wp2_with fail
  go_loopw [7] (fun x wr => ∃ i : Nat, i <= z /\ x = .int .i64 i /\ Hid (Wm w fb gb f g tb b0 b1 b2 b3 b4 n m wr)) (fun x _ => z - (intOf x).toNat)
  case atStart => exact ⟨0, by omega, rfl, W2⟩
  case round =>
   obtain ⟨i, hi, rfl, hb⟩ := hrel
   clear W2
   have c13 := CF.out wr hb.out.1
   have cl := hb.out.1.lt
   have d13 := CG.out wr hb.out.2.1
   have dl := hb.out.2.1.lt
   by_cases hlt : i < z
   . have hlt' : decide ((i : Int) < (S.size : Int)) = true := by have := SF.out; simp; omega
     have iS : i < S.size := by have := SF.out; omega
     have iG : i < G.size := by have := SG.out; omega
     have jS : (0 : Int) <= (i : Int) /\ (i : Int) < (S.size : Int) := by omega
     have jG : (0 : Int) <= (i : Int) /\ (i : Int) < (G.size : Int) := by omega
     obtain ⟨P, l1, hP⟩ : ∃ P : Nat, Int.tdiv (i : Int) 4096 = P /\ P < n := ⟨i / 4096, by rw [Int.tdiv_eq_ediv_of_nonneg (by omega)]; omega, by have := HN.out; omega⟩
     obtain ⟨L, l2, hL⟩ : ∃ L : Nat, Int.tdiv (i : Int) 4 = L /\ L < m := ⟨i / 4, by rw [Int.tdiv_eq_ediv_of_nonneg (by omega)]; omega, by have := HM.out; omega⟩
     have LP := hide1 (show i / 4096 = P by rw [Int.tdiv_eq_ediv_of_nonneg (by omega)] at l1; omega)
     have LL := hide1 (show i / 4 = L by rw [Int.tdiv_eq_ediv_of_nonneg (by omega)] at l2; omega)
     have WI : Hid (∀ W, Wm w fb gb f g tb b0 b1 b2 b3 b4 n m W -> (S[i]'iS = G[i]'iG \/ Tru W b2 (i / 4096) \/ (i % 4 = 0 /\ Tru W b3 (i / 4) /\ ADs (S[i]'iS) (G[i]'iG)))) := hide1 (fun W hW => WS.out _ _ _ hW.2.2.2.2 i iS iG)
     have hPb : P <= 100 := by have := HN.out; omega
     have hLb : L <= 70000 := by have := HM.out; omega
     have wP : IntKind.i64.wrap (P : Int) = P := zq115
     have wL : IntKind.i64.wrap (L : Int) = L := zq115
     have hPn : (0 : Int) <= (P : Int) /\ (P : Int) < (n : Int) := by omega
     have hLn : (0 : Int) <= (L : Int) /\ (L : Int) < (m : Int) := by omega
     go_upto_region 8 with fail
     go_cut [57] from 25 to 94 (fun q wx => (∃ b : Bool, q = .bool b /\ Hid (b = true -> i % 4 = 0 /\ Tru wr b3 (i / 4) /\ ADs (S[i]'iS) (G[i]'iG))) /\ ∃ n', wx = wr.drewN n')
     case first =>
      have t2 := hb.out.2.2.1.hdr.cell 2 _ rfl
      have tl := hb.out.2.2.1.hdr.lt
      obtain ⟨r2, e2⟩ := hb.out.2.2.1.s2.cell P hP
      have W1 := hide1 (WI.out wr hb.out)
      rcases beqC (S[i].toNat : Int) (G[i].toNat : Int) with ⟨g1, g1'⟩ | ⟨g1, g1'⟩
      . exact zq435
      . cases r2
        . have W2 : Hid (i % 4 = 0 /\ Tru wr b3 (i / 4) /\ ADs (S[i]'iS) (G[i]'iG)) := hide1 (by
           rcases W1.out with q | q | q
           . exact absurd (congrArg (fun x : UInt8 => (x.toNat : Int)) q) (by simpa using g1)
           . rw [LP.out] at q; unfold Tru at q; rw [e2] at q; simp at q
           . exact q)
          as_aux_lemma =>
           go_quiet (fail)
           all_goals
            go_wp2_with fail
            go_meet
            case rel => exact ⟨⟨_, rfl, hide1 (fun _ => W2.out)⟩, _, rfl⟩
        . exact zq435
     case rest =>
      obtain ⟨⟨bs, rfl, hbs⟩, nx, hwx⟩ := hcut
      have h8 : Hid (Wm w fb gb f g tb b0 b1 b2 b3 b4 n m wc) := hide1 (by rw [hwx]; exact hb.out.drewN nx)
      have U8 : Hid (Tru wr b3 L -> Tru wc b3 L) := hide1 (by rw [hwx]; exact Up.kept ((Kept.refl [] wr).drewN nx) _ _ hb.out.2.2.1.s3.lt)
      clear c13 cl d13 dl hwx
      cases bs
      . clear hb hbs
        go_wp2_with fail
        go_roundw
        case rel => exact ⟨i + 1, by omega, by go_num, h8⟩
        case measure => exact zq191
      . have c13 := CF.out _ h8.out.1
        have cl := h8.out.1.lt
        have d13 := CG.out _ h8.out.2.1
        have dl := h8.out.2.1.lt
        go_upto_region 9 with fail
        obtain ⟨y1, y2, y3⟩ := hbs.out rfl
        go_cut [94] from 25 to 94 (fun q wx => q = .bool false /\ Hid (Wm w fb gb f g tb b0 b1 b2 b3 b4 n m wx))
        case first =>
         have t3 := h8.out.2.2.1.hdr.cell 3 _ rfl
         have tl := h8.out.2.2.1.hdr.lt
         obtain ⟨r3, e3⟩ := h8.out.2.2.1.s3.cell L hL
         obtain ⟨R, l4, hR⟩ : ∃ R : Nat, Int.tmod (i : Int) 4 = R /\ R < 4 := ⟨i % 4, by rw [Int.tmod_eq_emod_of_nonneg (by omega)]; omega, by omega⟩
         have wR : IntKind.i64.wrap (R : Int) = R := zq115
         have r0 : R = 0 := by rw [Int.tmod_eq_emod_of_nonneg (by omega)] at l4; omega
         have ⟨g3, g3'⟩ := beqT (show (R : Int) = 0 by omega)
         have er : r3 = true := by
          rw [LL.out] at y2
          have y4 := U8.out y2
          unfold Tru at y4
          rw [e3] at y4
          simpa using y4
         have ⟨g4, g4'⟩ := beqT (ads_bits _ _ y3)
         subst er
         clear hb y1 y2 y3 r0
         as_aux_lemma =>
          go_quiet (fail)
          all_goals
           go_wp2_with fail
           go_meet
           case rel => exact ⟨rfl, hide1 (h8.out.drewN _)⟩
        case rest =>
         obtain ⟨rfl, h9⟩ := hcut
         clear h8 c13 cl d13 dl hb y1 y2 y3
         go_wp2_with fail
         go_roundw
         case rel => exact ⟨i + 1, by omega, by go_num, h9⟩
         case measure => exact zq191
   . have hlt' : decide ((i : Int) < (S.size : Int)) = false := by have := SF.out; simp; omega
     have iS : ¬ i < S.size := by have := SF.out; omega
     go_wp2_with fail
     go_ret
     exact ⟨rfl, hb.out.2.2.2.1⟩
def AtR (X : XS) (o : Ending) : Prop := ∃ I : Ins, o = .returned (insV I) /\ (I.ln ≠ 0 -> AtF X I)
theorem k_Decode (x : Int) (w : World) : CK 86 #[.int .i64 x] (.tuple #[insV (decodeD x).1, .int .i64 (decodeD x).2]) w := by
 refine (i_Decode x w).mono ?_
 rintro o w' ⟨rfl, h⟩
 exact ⟨rfl, Below.kept h []⟩
def Sa (w0 : World) (fb rb : Nat) (f : Fc) (w : World) : Prop := BoxF w fb f.l /\ BoxF w rb [.int .i64 0, .int .i64 0, .int .i64 0, .int .i64 0, .int .i64 0, .int .i64 0] /\ Kept [] w0 w
theorem Sa.kept {w0 : World} {fb rb : Nat} {f : Fc} {w w' : World} (h : Sa w0 fb rb f w) (hk : Kept [] w w') : Sa w0 fb rb f w' := ⟨h.1.kept hk, h.2.1.kept hk, h.2.2.trans hk⟩
theorem Sa.drewN {w0 : World} {fb rb : Nat} {f : Fc} {w : World} (h : Sa w0 fb rb f w) (n : Nat) : Sa w0 fb rb f (w.drewN n) := h.kept ((Kept.refl [] w).drewN n)
theorem Sa.six {w0 : World} {fb rb : Nat} {f : Fc} {w : World} (h : Sa w0 fb rb f w) (hr : w0.heap.size <= rb) (a0 a1 a2 a3 a4 a5 : Value) : BoxF ((((((w.setCell ⟨rb, 0, none⟩ a0).setCell ⟨rb, 1, none⟩ a1).setCell ⟨rb, 2, none⟩ a2).setCell ⟨rb, 3, none⟩ a3).setCell ⟨rb, 4, none⟩ a4).setCell ⟨rb, 5, none⟩ a5) rb [a0, a1, a2, a3, a4, a5] /\ Kept [] w0 ((((((w.setCell ⟨rb, 0, none⟩ a0).setCell ⟨rb, 1, none⟩ a1).setCell ⟨rb, 2, none⟩ a2).setCell ⟨rb, 3, none⟩ a3).setCell ⟨rb, 4, none⟩ a4).setCell ⟨rb, 5, none⟩ a5) :=
 ⟨(((((h.2.1.set 0 a0 (by simp)).set 1 a1 (by simp)).set 2 a2 (by simp)).set 3 a3 (by simp)).set 4 a4 (by simp)).set 5 a5 (by simp), (((((h.2.2.setCell (.inr hr) a0).setCell (.inr hr) a1).setCell (.inr hr) a2).setCell (.inr hr) a3).setCell (.inr hr) a4).setCell (.inr hr) a5⟩
theorem at_ret (W : World) (rb : Nat) (T : Array Value) (a0 a1 a2 a3 a4 a5 : Int) (bx : BoxF W rb [.int .i64 a0, .int .i64 a1, .int .i64 a2, .int .i64 a3, .int .i64 a4, .int .i64 a5]) (hT : T[2]?.getD undef = .pointer (some ⟨rb, 0, none⟩)) {Q : Ending -> World -> Prop} (h : Q (.returned (.agg #[.int .i64 a0, .int .i64 a1, .int .i64 a2, .int .i64 a3, .int .i64 a4, .int .i64 a5])) W) : bodyPost prog Tryz.f54 Q .ret ⟨T, []⟩ W := by
 have z0 := bx.cell 0 _ rfl
 have z1 := bx.cell 1 _ rfl
 have z2 := bx.cell 2 _ rfl
 have z3 := bx.cell 3 _ rfl
 have z4 := bx.cell 4 _ rfl
 have z5 := bx.cell 5 _ rfl
 refine bodyPost_ret (v := .agg #[.int .i64 a0, .int .i64 a1, .int .i64 a2, .int .i64 a3, .int .i64 a4, .int .i64 a5]) (by simp [results, results54, go_sem, hT, z0, z1, z2, z3, z4, z5]) rfl h
set_option maxRecDepth 100000 in
theorem k_at (fb : Nat) (X : XS) (hX : XInv X) (f : Fc) (fx : FcX X f) (w : World) (hf : Hid (BoxF w fb f.l)) : Calls prog 54 #[.pointer (some ⟨fb, 0, none⟩)] w fun o w' => AtR X o /\ Kept [] w w' := by
 have zr : f.ram.size = X.b.ram.length := by rw [fx.ram, pkB_size _ _ _ (by omega)]
 have hz := hX.ok.b.ram
 have pp : 0 <= f.pc /\ f.pc < 4294967296 := by rw [fx.pc]; have := hX.ok.pc; omega
 have NP : Hid (f.mode = 3 \/ ¬ f.satp / 2147483648 = 1 -> pgD (xC X) 0 = false) := hide1 (fun h => by
  have e1 := fx.mode
  have e2 : f.satp = ((X.c.satp : Nat) : Int) := fx.satp
  have h2 := hX.ok.satp
  have e4 : actsD (xC X) ((0 : Nat) : Int) = X.mode := rfl
  have e3 : pgD (xC X) 0 = if decide (X.mode < 3) = true then decide (2147483648 <= X.c.satp) else false := by unfold pgD; rw [e4]; rfl
  rw [e3]
  rcases h with h | h
  . rw [if_neg (by simp; omega)]
  . split
    . simp; omega
    . rfl)
 have I0 : Hid (AtR X (.returned (.agg #[.int .i64 0, .int .i64 0, .int .i64 0, .int .i64 0, .int .i64 0, .int .i64 0]))) := hide1 ⟨⟨0, 0, 0, 0, 0, 0⟩, rfl, fun h => absurd rfl h⟩
 have A2 : Hid (pgD (xC X) 0 = false -> ∀ n : Nat, f.pc - 2147483648 = n -> n + 2 <= X.b.ram.length -> ∀ x : Nat, rdRam X.b n 2 = x -> x % 4 ≠ 3 -> AtF X (decodeD (x : Int)).1) := hide1 (fun hp n hn h2 x hx h3 => at_2 hp n x (by have := fx.pc; omega) h2 hx h3)
 have A4 : Hid (pgD (xC X) 0 = false -> ∀ n : Nat, f.pc - 2147483648 = n -> n + 4 <= X.b.ram.length -> ∀ x y : Nat, rdRam X.b n 2 = x -> x % 4 = 3 -> x + rdRam X.b (n + 2) 2 * 65536 = y -> AtF X (decodeD (y : Int)).1) := hide1 (fun hp n hn h2 x y hx h3 hy => at_4 hp n x y (by have := fx.pc; omega) h2 hz hx h3 hy)
 have RD : Hid (∀ (s : ByteArray), s = f.ram -> ∀ n (h : n + 1 < s.size), rdRam X.b n 2 = (s[n]'(by omega)).toNat + 256 * (s[n + 1]'h).toNat) := hide1 (by
  rintro s rfl n h
  rw [rd_2 X.b n (by omega)]
  have e : ∀ (k : Nat) (hk : k < f.ram.size), f.ram[k] = X.b.ram.getD k 0 := by
   have := fx.ram
   generalize f.ram = R at this
   subst this
   exact fun k hk => pk_get _ k hk
  rw [e, e])
 have R2 : Hid (∀ n, rdRam X.b n 2 < 65536) := hide1 (fun n => rdRam_lt X.b n 2)
 clear hX fx
 obtain ⟨rb, hrb⟩ := zn1 (w.heap.size)
 have s0 : Hid (Sa w fb rb f (w.alloc (.cells #[.int .i64 0, .int .i64 0, .int .i64 0, .int .i64 0, .int .i64 0, .int .i64 0] 60))) := hide1 ⟨hf.out.kept ((Kept.refl [] w).alloc _), by rw [hrb]; exact BoxF.new w [.int .i64 0, .int .i64 0, .int .i64 0, .int .i64 0, .int .i64 0, .int .i64 0] _, (Kept.refl [] w).alloc _⟩
 have gr : w.heap.size <= rb := by omega
 go_enter func54, ntmps54
 go_upto_region 1 with fail
 rw [<- hrb]
 obtain ⟨W, hW⟩ := zn1 (w.alloc (.cells #[.int .i64 0, .int .i64 0, .int .i64 0, .int .i64 0, .int .i64 0, .int .i64 0] 60))
 rw [<- hW] at s0 |-
 clear hW hrb hf
 obtain ⟨O, hO⟩ := zn2 (f.pc - 2147483648 : Int)
 rw [hO] at A2 A4
 have wO : IntKind.i64.wrap O = O := zq115
 have f0 := s0.out.1.cell 0 _ rfl
 have f1 := s0.out.1.cell 1 _ rfl
 have f7 := s0.out.1.cell 7 _ rfl
 have f13 := s0.out.1.cell 13 _ rfl
 have fl := s0.out.1.lt
 obtain ⟨s, hs⟩ := zn1 (f.ram)
 rw [<- hs] at zr f13
 have H13 := hide1 (fun (W : World) (h : Sa w fb rb f W) => (by rw [hs]; exact h.1.cell 13 _ rfl : W.cell? ⟨fb, 13, none⟩ = some (.string s)))
 have RS := hide1 (RD.out s hs)
 clear hs RD
 rw [<- zr] at A2 A4 hz
 clear zr
 have wO2 : IntKind.i64.wrap (O + 2) = O + 2 := zq115
 go_upto_region 2 with fail
 go_cut [38] (fun q wx => (∃ b : Bool, q = .bool b /\ Hid (b = false -> (0 <= O /\ O + 2 <= s.size) /\ pgD (xC X) 0 = false)) /\ Hid (Sa w fb rb f wx))
 case first =>
  by_cases h0 : O < 0
  . have h0' : decide (O < 0) = true := by simp; omega
    exact zq437
  have h0' : decide (O < 0) = false := by simp; omega
  by_cases h1 : (s.size : Int) < O + 2
  . have h1' : decide ((s.size : Int) < O + 2) = true := by simp; omega
    exact zq437
  have h1' : decide ((s.size : Int) < O + 2) = false := by simp; omega
  rcases beqC f.mode 3 with ⟨ga, gb⟩ | ⟨ga, gb⟩ <;> rcases beqC (f.satp / 2147483648) 1 with ⟨gc, gd⟩ | ⟨gc, gd⟩
  all_goals
   as_aux_lemma =>
    go_wp2_with fail
    all_goals
     go_meet
     case rel => first
      | exact ⟨⟨_, rfl, hide1 (fun _ => ⟨by omega, NP.out (.inl (eq_of_beq ga))⟩)⟩, s0⟩
      | exact ⟨⟨_, rfl, hide1 (fun _ => ⟨by omega, NP.out (.inr (by simpa using gc))⟩)⟩, s0⟩
      | exact ⟨⟨_, rfl, hide1 (by simp)⟩, s0⟩
 case rest =>
 obtain ⟨⟨b, rfl, hb⟩, s1⟩ := hcut
 clear s0 f0 f1 f7 f13 fl
 cases b
 rotate_left
 . have r0 := s1.out.2.1.cell 0 _ rfl
   have r1 := s1.out.2.1.cell 1 _ rfl
   have r2 := s1.out.2.1.cell 2 _ rfl
   have r3 := s1.out.2.1.cell 3 _ rfl
   have r4 := s1.out.2.1.cell 4 _ rfl
   have r5 := s1.out.2.1.cell 5 _ rfl
   have rf := s1.out.2.1.fro
   have rl := s1.out.2.1.lt
   as_aux_lemma =>
    go_wp2_with fail
    obtain ⟨bx, kx⟩ := s1.out.six gr (.int .i64 0) (.int .i64 0) (.int .i64 0) (.int .i64 0) (.int .i64 0) (.int .i64 0)
    exact at_ret _ rb _ _ _ _ _ _ _ bx rfl ⟨I0.out, kx⟩
 obtain ⟨⟨o0, o1⟩, hpg⟩ := hb.out rfl
 have B2 := hide1 (A2.out hpg)
 have B4 := hide1 (A4.out hpg)
 clear hb A2 A4 NP hpg
 obtain ⟨n, hn⟩ : ∃ n : Nat, O = n := ⟨O.toNat, by omega⟩
 subst hn
 have f13 := H13.out _ s1.out
 have fl := s1.out.1.lt
 have i0 : n < s.size := by omega
 have i1 : n + 1 < s.size := by omega
 have w1 : IntKind.i64.wrap ((n : Int) + 1) = (n : Int) + 1 := zq115
 have j0 : (0 : Int) <= (n : Int) /\ (n : Int) < (s.size : Int) := by omega
 have j1 : (0 : Int) <= (n : Int) + 1 /\ (n : Int) + 1 < (s.size : Int) := by omega
 go_upto_region 4 with fail
 obtain ⟨x, hx0⟩ := zn2 (rdRam X.b n 2)
 have hx1 : x < 65536 := by rw [<- hx0]; exact R2.out n
 have XE : Hid (bits .or .i64 (wrap64 (s[n].toNat : Int)) (wrap64 (wrap64 (s[n + 1].toNat : Int) * 256)) = (x : Int)) := hide1 (by rw [or_2 _ _ (UInt8.toNat_lt _) (UInt8.toNat_lt _), <- RS.out n i1, hx0])
 have X0 := hide1 hx0
 clear hx0
 go_cut [4] (fun q wx => q = .int .i64 x /\ Hid (Sa w fb rb f wx))
 case first =>
  as_aux_lemma =>
   go_quiet (fail)
   all_goals
    go_wp2_with fail
    go_meet
    case rel => exact ⟨congrArg (fun x => Value.int .i64 x) XE.out, hide1 (s1.out.drewN _)⟩
 case rest =>
 obtain ⟨rfl, s2⟩ := hcut
 clear s1 f13 fl i0 i1 w1 j0 j1 XE
 have f13 := H13.out _ s2.out
 have fl := s2.out.1.lt
 have w4 : IntKind.i64.wrap ((n : Int) + 4) = (n : Int) + 4 := zq115
 have X3 := hide1 (and_3 x hx1)
 by_cases hx : (bits .and .i64 x 3 == 3) = true
 rotate_left
 . have hx' : (bits .and .i64 x 3 == 3) = false := by simpa using hx
   have AR : Hid (AtR X (.returned (insV (decodeD (x : Int)).1))) := hide1 ⟨_, rfl, fun _ => B2.out n rfl (by omega) x X0.out (by rw [X3.out] at hx; simp at hx; omega)⟩
   clear hx
   go_wp2_with fail
   refine (k_Decode _ _).mono ?_
   rintro o wd ⟨rfl, hk⟩
   obtain ⟨⟨a0, a1, a2, a3, a4, a5⟩, hI⟩ : ∃ I, (decodeD (x : Int)).1 = I := ⟨_, rfl⟩
   rw [hI] at AR |-
   clear hI
   obtain ⟨e, he⟩ := zn2 ((decodeD (x : Int)).2)
   rw [he]
   clear he
   unfold insV
   dsimp only
   have se := hide1 (s2.out.kept hk)
   have r0 := se.out.2.1.cell 0 _ rfl
   have r1 := se.out.2.1.cell 1 _ rfl
   have r2 := se.out.2.1.cell 2 _ rfl
   have r3 := se.out.2.1.cell 3 _ rfl
   have r4 := se.out.2.1.cell 4 _ rfl
   have r5 := se.out.2.1.cell 5 _ rfl
   have rf := se.out.2.1.fro
   have rl := (s2.out.kept hk).2.1.lt
   have rn : ¬ rb = wd.heap.size := by omega
   clear s2 hk
   exact zq436
 by_cases h4 : (s.size : Int) < (n : Int) + 4
 . have h4' : decide ((s.size : Int) < (n : Int) + 4) = true := by simp; omega
   clear h4
   have r0 := s2.out.2.1.cell 0 _ rfl
   have r1 := s2.out.2.1.cell 1 _ rfl
   have r2 := s2.out.2.1.cell 2 _ rfl
   have r3 := s2.out.2.1.cell 3 _ rfl
   have r4 := s2.out.2.1.cell 4 _ rfl
   have r5 := s2.out.2.1.cell 5 _ rfl
   have rf := s2.out.2.1.fro
   have rl := s2.out.2.1.lt
   as_aux_lemma =>
    go_wp2_with fail
    obtain ⟨bx, kx⟩ := s2.out.six gr (.int .i64 0) (.int .i64 0) (.int .i64 0) (.int .i64 0) (.int .i64 0) (.int .i64 0)
    exact at_ret _ rb _ _ _ _ _ _ _ bx rfl ⟨I0.out, kx⟩
 have h4' : decide ((s.size : Int) < (n : Int) + 4) = false := by simp; omega
 have i2 : n + 2 < s.size := by omega
 have i3 : n + 3 < s.size := by omega
 have w2 : IntKind.i64.wrap ((n : Int) + 2) = (n : Int) + 2 := zq115
 have w3 : IntKind.i64.wrap ((n : Int) + 3) = (n : Int) + 3 := zq115
 have j2 : (0 : Int) <= (n : Int) + 2 /\ (n : Int) + 2 < (s.size : Int) := by omega
 have j3 : (0 : Int) <= (n : Int) + 3 /\ (n : Int) + 3 < (s.size : Int) := by omega
 go_upto_region 8 with fail
 obtain ⟨y, hy0⟩ := zn2 (x + rdRam X.b (n + 2) 2 * 65536)
 have YE : Hid (bits .or .i64 (bits .or .i64 (x : Int) (wrap64 (wrap64 (s[n + 2].toNat : Int) * 65536))) (wrap64 (wrap64 (s[n + 3].toNat : Int) * 16777216)) = (y : Int)) := hide1 (by rw [or_4 x _ _ hx1 (UInt8.toNat_lt _) (UInt8.toNat_lt _), <- RS.out (n + 2) i3, hy0])
 have AR : Hid (AtR X (.returned (insV (decodeD (y : Int)).1))) := hide1 ⟨_, rfl, fun _ => B4.out n rfl (by omega) x y X0.out (by rw [X3.out] at hx; simp at hx; omega) hy0⟩
 clear hy0
 go_cut [4] (fun q wx => q = .int .i64 y /\ Hid (Sa w fb rb f wx))
 case first =>
  as_aux_lemma =>
   go_quiet (fail)
   all_goals
    go_wp2_with fail
    go_meet
    case rel => exact ⟨congrArg (fun x => Value.int .i64 x) YE.out, hide1 (s2.out.drewN _)⟩
 case rest =>
 obtain ⟨rfl, s3⟩ := hcut
 clear s2 YE
 go_wp2_with fail
 refine (k_Decode _ _).mono ?_
 rintro o wd ⟨rfl, hk⟩
 obtain ⟨⟨a0, a1, a2, a3, a4, a5⟩, hI⟩ : ∃ I, (decodeD (y : Int)).1 = I := ⟨_, rfl⟩
 rw [hI] at AR |-
 clear hI
 obtain ⟨e, he⟩ := zn2 ((decodeD (y : Int)).2)
 rw [he]
 clear he
 unfold insV
 dsimp only
 have se := hide1 (s3.out.kept hk)
 have r0 := se.out.2.1.cell 0 _ rfl
 have r1 := se.out.2.1.cell 1 _ rfl
 have r2 := se.out.2.1.cell 2 _ rfl
 have r3 := se.out.2.1.cell 3 _ rfl
 have r4 := se.out.2.1.cell 4 _ rfl
 have r5 := se.out.2.1.cell 5 _ rfl
 have rf := se.out.2.1.fro
 have rl := (s3.out.kept hk).2.1.lt
 have rn : ¬ rb = wd.heap.size := by omega
 clear s3 hk
 exact zq436
structure Wv (w0 : World) (fb gb ib db mb rb : Nat) (Y : XS) (f g : Fc) (a0 a1 a2 a3 a4 a5 k c : Int) (w : World) : Prop where
 f : BoxF w fb f.l
 g : BoxF w gb g.l
 i : BoxF w ib [.int .i64 a0, .int .i64 a1, .int .i64 a2, .int .i64 a3, .int .i64 a4, .int .i64 a5]
 d : BoxF w db [.int .i64 k, .int .i64 c]
 m : XAt w mb rb Y
 kp : Kept [mb, rb] w0 w
theorem Wv.kept {w0 : World} {fb gb ib db mb rb : Nat} {Y : XS} {f g : Fc} {a0 a1 a2 a3 a4 a5 k c : Int} {w w' : World} (h : Wv w0 fb gb ib db mb rb Y f g a0 a1 a2 a3 a4 a5 k c w) (hk : Kept [] w w') : Wv w0 fb gb ib db mb rb Y f g a0 a1 a2 a3 a4 a5 k c w' :=
 ⟨h.f.kept hk, h.g.kept hk, h.i.kept hk, h.d.kept hk, h.m.kept hk, h.kp.trans (hk.mono (by simp))⟩
theorem Wv.drewN {w0 : World} {fb gb ib db mb rb : Nat} {Y : XS} {f g : Fc} {a0 a1 a2 a3 a4 a5 k c : Int} {w : World} (h : Wv w0 fb gb ib db mb rb Y f g a0 a1 a2 a3 a4 a5 k c w) (n : Nat) : Wv w0 fb gb ib db mb rb Y f g a0 a1 a2 a3 a4 a5 k c (w.drewN n) := h.kept ((Kept.refl [] w).drewN n)
theorem Wv.st {w0 : World} {fb gb ib db mb rb : Nat} {Y : XS} {f g : Fc} {a0 a1 a2 a3 a4 a5 k c : Int} {w : World} (h : Wv w0 fb gb ib db mb rb Y f g a0 a1 a2 a3 a4 a5 k c w) : Su w fb gb f g mb rb Y w := ⟨h.f, h.g, h.m, Kept.refl _ _⟩
theorem Wv.sl {w0 : World} {fb gb ib db mb rb : Nat} {Y : XS} {f g : Fc} {a0 a1 a2 a3 a4 a5 k c : Int} {w : World} (h : Wv w0 fb gb ib db mb rb Y f g a0 a1 a2 a3 a4 a5 k c w) : Sl w gb g mb rb Y w := ⟨h.g, h.m, Kept.refl _ _⟩
structure Kno (X Y : XS) (k : Int) (c : Nat) (f g : Fc) : Prop where
 kk : k = 0 \/ k = 1 \/ k = 2 \/ k = 3
 tr : k = 1 \/ k = 2 -> ∃ s, Trp Y f g k c s
 cn : ∀ op, (op = 61 \/ ∃ I, AtF X I /\ op = I.op) -> Cnt f g k op
 sn : ∀ I, AtF X I -> k = 1 -> Sns f I.op c
 ru : ∀ I, AtF X I -> k = 0 -> I.op ≠ 0 /\ I.op ≠ 40 /\ I.op ≠ 41 /\ (I.op = 67 \/ I.op = 68 -> Ret Y f g I.op) /\ (¬ (I.op = 67 \/ I.op = 68) -> g.mode = f.mode)
 ra : k = 2 \/ k = 3 -> f.ram = g.ram
theorem kno_of {X : XS} (hX : XInv X) {f g : Fc} (fx : FcX X f) (gx : FcX (stepX X).2 g) (c : Nat) (hc : (stepX X).1.2 = c) : Kno X (stepX X).2 (stepX X).1.1 c f g := by
 refine ⟨?_, fun h => ?_, fun op ho => cnt_of hX fx gx op ho, fun I ha h => sns_of hX fx ha c (Prod.ext h hc), fun I ha h => run_of hX fx gx ha h, fun h => ram_of hX fx gx h⟩
 . rcases step_is hX with ⟨e, _⟩ | ⟨_, _, e, _⟩ | ⟨_, _, e, _⟩ | ⟨_, _, _, _, e, _⟩ <;> rw [e] <;> dsimp only <;> omega
 . obtain ⟨c', s, e, t⟩ := trp_of hX fx gx h
   have : c' = c := by rw [hc] at e; omega
   rw [this] at t
   exact ⟨s, t⟩
set_option maxRecDepth 100000 in
theorem k_watchedT (mb rb z : Nat) (w : World) (hw : Hid (Mz w mb rb z)) : Calls prog 30 #[.pointer (some ⟨mb, 0, none⟩)] w fun o w' => TPost w mb rb z o w' := by
 have zl := hw.out.le
 have ml := hw.out.m.lt
 obtain ⟨X, hx, hI, hzz⟩ := hw.out
 obtain ⟨c, hc, hch⟩ := cho_of hI
 have KN := hide1 (fun f g (fx : FcX X f) (gx : FcX (stepX X).2 g) => kno_of hI fx gx c hc)
 have WL := hide1 (fun fb gb f g (fx : FcX X f) (gx : FcX (stepX X).2 g) (okf : FcOk f z) (okg : FcOk g z) W hf hg => k_walledT fb gb z X hI hzz f g fx gx zl okf okg W hf hg)
 have ST := hide1 (fun W (hW : Hid (XAt W mb rb X)) => x_Step mb rb X hI W hW)
 have YI := hide1 (step_inv hI)
 have YZ : Hid ((stepX X).2.b.ram.length = z) := hide1 (by rw [step_len]; exact hzz)
 obtain ⟨k, hk⟩ := zn2 ((stepX X).1.1)
 obtain ⟨Y, hY⟩ := zn2 ((stepX X).2)
 rw [hk, hc, hY] at ST
 rw [hk] at hch
 rw [hk, hY] at KN
 rw [hY] at WL YI YZ
 have TP : Hid (∀ w', XAt w' mb rb Y -> Kept [mb, rb] w w' -> TPost w mb rb z (.returned (.bool true)) w') := hide1 (fun w' h1 h2 => ⟨rfl, ⟨Y, h1, YI.out, YZ.out⟩, h2⟩)
 have CH := hide1 hch
 have XI := hide1 hI
 have XZ := hide1 hzz
 have HX := hide1 hx
 clear hw hx hI hzz hc hch hk hY
 go_enter func30, ntmps30
 go_wp2_with fail
 refine (k_lookV mb rb X XI.out w HX).mono ?_
 rintro o w1 ⟨⟨f, fx, rfl, hf⟩, hk1⟩
 obtain ⟨fb, hfb⟩ := zn1 (w.heap.size)
 rw [<- hfb] at hf |-
 have s1 : Hid (Sl w fb f mb rb X w1) := hide1 ⟨hf, HX.out.kept hk1, hk1⟩
 have NF : Hid (¬ fb ∈ [mb, rb]) := hide1 (by simp; omega)
 have FX := hide1 fx
 have OKF := hide1 (fx.ok XI.out XZ.out)
 have LO := hide1 (loo_of XI.out fx)
 clear hf hk1 HX hfb fx
 go_wp2_with fail
 refine (k_legal mb rb fb X XI.out f FX.out w1 (hide1 ⟨s1.out.1, s1.out.2.1, Kept.refl _ _⟩)).mono ?_
 rintro o w2 ⟨rfl, hk⟩
 have s2 := hide1 (s1.out.kept hk)
 clear hk s1
 go_wp2_with fail
 refine (k_at fb X XI.out f FX.out w2 (hide1 s2.out.1)).mono ?_
 rintro o w3 ⟨⟨⟨a0, a1, a2, a3, a4, a5⟩, rfl, hat⟩, hk⟩
 have AT : Hid (a5 ≠ 0 -> AtF X ⟨a0, a1, a2, a3, a4, a5⟩) := hide1 hat
 clear hat
 unfold insV
 dsimp only
 obtain ⟨ib, hib⟩ := zn1 (w3.heap.size)
 have bi := hide1 (BoxF.new w3 [.int .i64 a0, .int .i64 a1, .int .i64 a2, .int .i64 a3, .int .i64 a4, .int .i64 a5] 60)
 have s3 := hide1 (s2.out.kept (hk.alloc (.cells #[.int .i64 a0, .int .i64 a1, .int .i64 a2, .int .i64 a3, .int .i64 a4, .int .i64 a5] 60)))
 have hi3 : w.heap.size <= ib := by rw [hib]; exact (s2.out.2.2.trans hk).size
 clear hk s2
 go_wp2_with fail
 rw [<- hib] at bi |-
 obtain ⟨W3, hW3⟩ := zn1 (w3.alloc (.cells #[.int .i64 a0, .int .i64 a1, .int .i64 a2, .int .i64 a3, .int .i64 a4, .int .i64 a5] 60))
 simp only [List.toArray] at bi
 rw [<- hW3] at bi s3 |-
 clear hW3 hib
 refine (ST.out W3 (hide1 s3.out.2.1)).mono ?_
 rintro o w4 ⟨rfl, hm, hk⟩
 have n1 := NF.out
 have n2 : ¬ ib ∈ [mb, rb] := by simp; omega
 have q4 : Hid (BoxF w4 fb f.l /\ BoxF w4 ib [.int .i64 a0, .int .i64 a1, .int .i64 a2, .int .i64 a3, .int .i64 a4, .int .i64 a5] /\ XAt w4 mb rb Y /\ Kept [mb, rb] w w4) := hide1 ⟨s3.out.1.more hk n1, bi.out.more hk n2, hm, (s3.out.2.2.mono (by simp)).trans hk⟩
 clear hk hm s3 bi n1 n2 ST NF
 unfold didV
 obtain ⟨db, hdb⟩ := zn1 (w4.heap.size)
 have ka : Kept [] w4 (w4.alloc (.cells #[.int .i64 k, .int .i64 (c : Int)] 45)) := zq136
 have q5 : Hid (BoxF (w4.alloc (.cells #[.int .i64 k, .int .i64 (c : Int)] 45)) fb f.l /\ BoxF (w4.alloc (.cells #[.int .i64 k, .int .i64 (c : Int)] 45)) ib [.int .i64 a0, .int .i64 a1, .int .i64 a2, .int .i64 a3, .int .i64 a4, .int .i64 a5] /\ BoxF (w4.alloc (.cells #[.int .i64 k, .int .i64 (c : Int)] 45)) db [.int .i64 k, .int .i64 (c : Int)] /\ XAt (w4.alloc (.cells #[.int .i64 k, .int .i64 (c : Int)] 45)) mb rb Y /\ Kept [mb, rb] w (w4.alloc (.cells #[.int .i64 k, .int .i64 (c : Int)] 45))) := hide1 ⟨q4.out.1.kept ka, q4.out.2.1.kept ka, by rw [hdb]; exact BoxF.new w4 [.int .i64 k, .int .i64 (c : Int)] _, q4.out.2.2.1.kept ka, q4.out.2.2.2.trans (ka.mono (by simp))⟩
 clear q4 ka
 go_wp2_with fail
 rw [<- hdb]
 obtain ⟨W4, hW4⟩ := zn1 (w4.alloc (.cells #[.int .i64 k, .int .i64 (c : Int)] 45))
 rw [<- hW4] at q5 |-
 clear hW4 hdb
 refine (k_lookV mb rb Y YI.out W4 (hide1 q5.out.2.2.2.1)).mono ?_
 rintro o w5 ⟨⟨g, gx, rfl, hg⟩, hk⟩
 obtain ⟨gb, hgb⟩ := zn1 (W4.heap.size)
 rw [<- hgb] at hg |-
 have s5 : Hid (Wv w fb gb ib db mb rb Y f g a0 a1 a2 a3 a4 a5 k c w5) := hide1 ⟨q5.out.1.kept hk, hg, q5.out.2.1.kept hk, q5.out.2.2.1.kept hk, q5.out.2.2.2.1.kept hk, q5.out.2.2.2.2.trans (hk.mono (by simp))⟩
 have OKG := hide1 (gx.ok YI.out YZ.out)
 have KK := hide1 (KN.out f g FX.out gx)
 have WA := hide1 (fun W hf hg => WL.out fb gb f g FX.out gx OKF.out OKG.out W hf hg)
 have GX := hide1 gx
 clear hk q5 hg hgb hi3 ml gx KN WL
 go_wp2_with fail
 refine (k_legal mb rb gb Y YI.out g GX.out _ (hide1 s5.out.sl)).mono ?_
 rintro o w6 ⟨rfl, hk⟩
 have s := hide1 (s5.out.kept hk)
 clear hk s5
 have i0 := s.out.i.cell 0 _ rfl
 have i1 := s.out.i.cell 1 _ rfl
 have i2 := s.out.i.cell 2 _ rfl
 have i3 := s.out.i.cell 3 _ rfl
 have i4 := s.out.i.cell 4 _ rfl
 have i5 := s.out.i.cell 5 _ rfl
 have il := s.out.i.lt
 have d0 := s.out.d.cell 0 _ rfl
 have d1 := s.out.d.cell 1 _ rfl
 have dl := s.out.d.lt
 go_wp2_with fail
 refine (k_chosenT X k c CH fb f LO _ (hide1 s.out.f)).mono ?_
 rintro o w7 ⟨rfl, hk⟩
 clear i0 i1 i2 i3 i4 i5 il d0 d1 dl
 replace s := hide1 (s.out.kept hk)
 clear hk
 have i0 := s.out.i.cell 0 _ rfl
 have i1 := s.out.i.cell 1 _ rfl
 have i2 := s.out.i.cell 2 _ rfl
 have i3 := s.out.i.cell 3 _ rfl
 have i4 := s.out.i.cell 4 _ rfl
 have i5 := s.out.i.cell 5 _ rfl
 have il := s.out.i.lt
 have d0 := s.out.d.cell 0 _ rfl
 have d1 := s.out.d.cell 1 _ rfl
 have dl := s.out.d.lt
 go_upto_if 36 with fail
 go_cut [8] (fun q wx => (∃ x : Int, q = .int .i64 x /\ Hid (x = 61 \/ ∃ I, AtF X I /\ x = I.op)) /\ Hid (Wv w fb gb ib db mb rb Y f g a0 a1 a2 a3 a4 a5 k c wx))
 case first =>
  rcases beqC a5 0 with ⟨qz, qy⟩ | ⟨qz, qy⟩
  . as_aux_lemma =>
     go_wp2_with fail
     go_meet
     case rel => exact ⟨⟨_, rfl, hide1 (.inl rfl)⟩, s⟩
  . have A1 := hide1 (AT.out (by simpa using qz))
    as_aux_lemma =>
     go_wp2_with fail
     go_meet
     case rel => exact ⟨⟨_, rfl, hide1 (.inr ⟨_, A1.out, rfl⟩)⟩, s⟩
 case rest =>
 obtain ⟨⟨op, rfl, hop⟩, s8⟩ := hcut
 clear i0 i1 i2 i3 i4 i5 il d0 d1 dl
 clear s
 have s := s8
 clear s8
 have i0 := s.out.i.cell 0 _ rfl
 have i1 := s.out.i.cell 1 _ rfl
 have i2 := s.out.i.cell 2 _ rfl
 have i3 := s.out.i.cell 3 _ rfl
 have i4 := s.out.i.cell 4 _ rfl
 have i5 := s.out.i.cell 5 _ rfl
 have il := s.out.i.lt
 have d0 := s.out.d.cell 0 _ rfl
 have d1 := s.out.d.cell 1 _ rfl
 have dl := s.out.d.lt
 go_wp2_with fail
 refine (k_countedT gb g k _ op fb f z z OKF.out OKG.out (KK.out.cn op hop.out) _ (hide1 s.out.f) (hide1 s.out.g)).mono ?_
 rintro o w7 ⟨rfl, hk⟩
 clear i0 i1 i2 i3 i4 i5 il d0 d1 dl
 replace s := hide1 (s.out.kept hk)
 clear hk
 have i0 := s.out.i.cell 0 _ rfl
 have i1 := s.out.i.cell 1 _ rfl
 have i2 := s.out.i.cell 2 _ rfl
 have i3 := s.out.i.cell 3 _ rfl
 have i4 := s.out.i.cell 4 _ rfl
 have i5 := s.out.i.cell 5 _ rfl
 have il := s.out.i.lt
 have d0 := s.out.d.cell 0 _ rfl
 have d1 := s.out.d.cell 1 _ rfl
 have dl := s.out.d.lt
 clear hop
 have kk := KK.out.kk
 rcases kk with rfl | rfl | rfl | rfl
 . rcases beqC a5 0 with ⟨pz, py⟩ | ⟨pz, py⟩
   . exact zq439
   have RU := KK.out.ru _ (AT.out (by simpa using pz)) rfl
   have f0 := s.out.f.cell 0 _ rfl
   have g0 := s.out.g.cell 0 _ rfl
   have fl := s.out.f.lt
   have gl := s.out.g.lt
   have ⟨e0, e0x⟩ := beqF RU.1
   have ⟨e1, e1x⟩ := beqF RU.2.1
   have ⟨e2, e2x⟩ := beqF RU.2.2.1
   have RT := hide1 RU.2.2.2.1
   have RM := hide1 RU.2.2.2.2
   clear RU AT CH LO
   dsimp only at e0 e0x e1 e1x e2 e2x RT RM
   rcases beqC a0 67 with ⟨e67, e67x⟩ | ⟨e67, e67x⟩
   . have RR := hide1 (RT.out (by have := eq_of_beq e67; omega))
     have OP : Hid (a0 = 67 \/ a0 = 68) := hide1 (by have := eq_of_beq e67; omega)
     exact zq440
   rcases beqC a0 68 with ⟨e68, e68x⟩ | ⟨e68, e68x⟩
   . have RR := hide1 (RT.out (by have := eq_of_beq e68; omega))
     have OP : Hid (a0 = 67 \/ a0 = 68) := hide1 (by have := eq_of_beq e68; omega)
     exact zq440
   have ⟨m1, m2⟩ := beqT (RM.out (by simp at e67 e68; omega))
   go_upto_region 35 with fail
   go_cut [119] (fun q wx => q = .bool false /\ Hid (Wv w fb gb ib db mb rb Y f g a0 a1 a2 a3 a4 a5 0 c wx))
   case first =>
    exact zq392
   case rest =>
   obtain ⟨rfl, s1⟩ := hcut
   clear i0 i1 i2 i3 i4 i5 il d0 d1 dl
   clear s f0 g0 fl gl
   have s := s1
   clear s1
   exact zq438
 . obtain ⟨sb, hT⟩ := KK.out.tr (by omega)
   have TT := hide1 hT
   clear hT
   go_wp2_with fail
   refine (k_trappedT mb rb fb gb Y YI.out.ok f g 1 c sb TT.out _ (hide1 s.out.st)).mono ?_
   rintro o w7 ⟨rfl, hk⟩
   clear i0 i1 i2 i3 i4 i5 il d0 d1 dl
   replace s := hide1 (s.out.kept hk)
   clear hk TT
   have i0 := s.out.i.cell 0 _ rfl
   have i1 := s.out.i.cell 1 _ rfl
   have i2 := s.out.i.cell 2 _ rfl
   have i3 := s.out.i.cell 3 _ rfl
   have i4 := s.out.i.cell 4 _ rfl
   have i5 := s.out.i.cell 5 _ rfl
   have il := s.out.i.lt
   have d0 := s.out.d.cell 0 _ rfl
   have d1 := s.out.d.cell 1 _ rfl
   have dl := s.out.d.lt
   rcases beqC a5 0 with ⟨pz, py⟩ | ⟨pz, py⟩
   . exact zq439
   have SN := hide1 (KK.out.sn _ (AT.out (by simpa using pz)) rfl)
   clear AT CH LO
   go_wp2_with fail
   refine (k_sensibleT _ _ _ _ _ _ c fb f SN.out _ (hide1 s.out.f)).mono ?_
   rintro o w7 ⟨rfl, hk⟩
   clear i0 i1 i2 i3 i4 i5 il d0 d1 dl
   replace s := hide1 (s.out.kept hk)
   clear hk SN
   exact zq438
 . obtain ⟨sb, hT⟩ := KK.out.tr (by omega)
   have TT := hide1 hT
   clear hT
   go_wp2_with fail
   refine (k_trappedT mb rb fb gb Y YI.out.ok f g 2 c sb TT.out _ (hide1 s.out.st)).mono ?_
   rintro o w7 ⟨rfl, hk⟩
   clear i0 i1 i2 i3 i4 i5 il d0 d1 dl
   replace s := hide1 (s.out.kept hk)
   clear hk TT
   have i0 := s.out.i.cell 0 _ rfl
   have i1 := s.out.i.cell 1 _ rfl
   have i2 := s.out.i.cell 2 _ rfl
   have i3 := s.out.i.cell 3 _ rfl
   have i4 := s.out.i.cell 4 _ rfl
   have i5 := s.out.i.cell 5 _ rfl
   have il := s.out.i.lt
   have d0 := s.out.d.cell 0 _ rfl
   have d1 := s.out.d.cell 1 _ rfl
   have dl := s.out.d.lt
   exact zq441
 . exact zq441
theorem fields_did : (prog.fieldsOf 45).toList.map (fun f => (f.name, f.type, f.offset)) = [("Kind", 3, 0), ("Cause", 3, 1)] := by kernel_rfl
theorem und_did : prog.underlying 45 = some (.struct (prog.fieldsOf 45)) := by kernel_rfl
theorem stood_did : prog.stoodInHeld 45 = false := by kernel_rfl
theorem eqFields_did (d : Nat) (a0 a1 b0 b1 : Int) (fs : List Field) (h : fs.map (fun f => (f.name, f.type, f.offset)) = [("Kind", 3, 0), ("Cause", 3, 1)]) (w : World) :
 (Op.eqFields (d + 1) #[.int .i64 a0, .int .i64 a1] #[.int .i64 b0, .int .i64 b1] fs).run prog w = .ok (a0 == b0 && a1 == b1) w := by
 rcases fs with _ | ⟨f0, fs⟩
 . simp at h
 rcases fs with _ | ⟨f1, fs⟩
 . simp at h
 rcases fs with _ | ⟨f2, fs⟩
 . simp only [List.map_cons, List.map_nil, List.cons.injEq, Prod.mk.injEq, and_true] at h
   obtain ⟨⟨n0, t0, o0⟩, n1, t1, o1⟩ := h
   simp [Op.eqFields, n0, n1, t0, t1, o0, o1, go_sem, part]
   by_cases h0 : a0 = b0 <;> by_cases h1 : a1 = b1 <;> simp [h0, h1]
 . simp at h
theorem neq_did (a0 a1 b0 b1 : Int) (w : World) : (binOp .neq 45 (.agg #[.int .i64 a0, .int .i64 a1]) (.agg #[.int .i64 b0, .int .i64 b1])).run prog w = .ok (.bool (!(a0 == b0 && a1 == b1))) w := by
 rw [run_neq_struct, show (10000 : Nat) = 9998 + 1 + 1 from rfl, run_equalIn_agg w (9998 + 1) 45 _ _ und_did stood_did, eqFields_did 9998 _ _ _ _ _ fields_did]
 rfl
theorem conv_one (v : Int) (h0 : 0 <= v) (h1 : v < 256) (W : World) : (convert 64 9 (.slice (some ⟨W.heap.size, 0, none⟩) 1 1)).run prog (W.alloc (.cells #[.int .u8 v] 5)) = .ok (.string (oneB v)) (W.alloc (.cells #[.int .u8 v] 5)) := by
 have h := run_convert_bytes_back (P := prog) (W.alloc (.cells #[.int .u8 v] 5)) 64 9 5 ⟨W.heap.size, 0, none⟩ 1 [UInt8.ofNat v.toNat] Tryz.underlying64 Tryz.underlying5 Tryz.underlying9 (fun j hj => by
  obtain rfl : j = 0 := by simpa using hj
  have : ((UInt8.ofNat v.toNat).toNat : Int) = v := by rw [UInt8.toNat_ofNat']; omega
  simp [Addr.add, this]
  omega)
 exact h
theorem slice_lo (s : ByteArray) (b : Nat) (h2 : b <= s.size) (w : World) : (Instr.slice 9 (.string s) none (some (.int .i64 (b : Int))) none).run prog w = .ok (.string (s.extract 0 b)) w := by
 have h2' : (b : Int) <= (s.size : Int) := by omega
 go_simp
theorem slice_hi (s : ByteArray) (a : Nat) (h2 : a <= s.size) (w : World) : (Instr.slice 9 (.string s) (some (.int .i64 (a : Int))) none none).run prog w = .ok (.string (s.extract a s.size)) w := by
 have h2' : (a : Int) <= (s.size : Int) := by omega
 go_simp
structure Sx (w0 : World) (mb rb z yb vb : Nat) (w : World) : Prop where
 m : Mz w mb rb z
 y : Mz w yb (yb + 1) z
 v : Mz w vb (vb + 1) z
 n0 : w0.heap.size <= yb
 n1 : yb + 2 <= vb
 lm : mb < w0.heap.size /\ rb < w0.heap.size
 kp : Kept [] w0 w
theorem Sx.kept {w0 : World} {mb rb z yb vb : Nat} {w w' : World} (h : Sx w0 mb rb z yb vb w) (hk : Kept [] w w') : Sx w0 mb rb z yb vb w' :=
 ⟨h.m.kept hk, h.y.kept hk, h.v.kept hk, h.n0, h.n1, h.lm, h.kp.trans hk⟩
theorem Sx.actY {w0 : World} {mb rb z yb vb : Nat} {w w' : World} (h : Sx w0 mb rb z yb vb w) (hm : Mz w' yb (yb + 1) z) (hk : Kept [yb, yb + 1] w w') : Sx w0 mb rb z yb vb w' := by
 have a := h.n0; have b := h.n1; have c := h.lm
 exact ⟨h.m.more hk (by simp; omega) (by simp; omega), hm, h.v.more hk (by simp; omega) (by simp; omega), a, b, c, h.kp.fresh hk (by simp; omega)⟩
theorem Sx.actV {w0 : World} {mb rb z yb vb : Nat} {w w' : World} (h : Sx w0 mb rb z yb vb w) (hm : Mz w' vb (vb + 1) z) (hk : Kept [vb, vb + 1] w w') : Sx w0 mb rb z yb vb w' := by
 have a := h.n0; have b := h.n1; have c := h.lm
 exact ⟨h.m.more hk (by simp; omega) (by simp; omega), h.y.more hk (by simp; omega) (by simp; omega), hm, a, b, c, h.kp.fresh hk (by simp; omega)⟩
set_option maxRecDepth 100000 in
theorem k_secret (mb rb z : Nat) (at0 wi : Int) (h0 : -9223372036854775808 <= at0) (h1 : at0 <= 9223372036854775807) (w : World) (hw : Hid (Mz w mb rb z)) : Calls prog 32 #[.pointer (some ⟨mb, 0, none⟩), .int .i64 at0, .int .i64 wi] w fun o w' => MPost w mb rb z o w' := by
 have zl := hw.out.le
 have ml := hw.out.m.lt
 go_enter func32, ntmps32
 go_wp2_with fail
 refine (k_look mb rb z w hw).mono ?_
 rintro o w1 ⟨⟨f, okf, rfl, hf⟩, hk1⟩
 obtain ⟨fb, hfb⟩ := zn1 (w.heap.size)
 rw [<- hfb] at hf |-
 have m1 := hide1 (hw.out.kept hk1)
 have K1 := hide1 hk1
 have F1 := hide1 hf
 clear hf hk1 hw hfb
 go_wp2_with fail
 refine (k_paged fb f w1 F1).mono ?_
 rintro o wp ⟨rfl, hwp⟩
 rw [hwp]
 clear hwp wp
 obtain ⟨on, hon⟩ := zn2 ((!(f.mode == 3) && (f.satp / 2147483648 == 1)))
 rw [hon]
 clear hon
 have c13 := F1.out.cell 13 _ rfl
 have fl := F1.out.lt
 have zr := okf.ram
 obtain ⟨s, hs⟩ := zn1 (f.ram)
 rw [<- hs] at c13 zr
 clear hs
 cases on
 . exact zq443
 by_cases hz : z = 0
 . have hz' : ((s.size : Int) == 0) = true := by rw [zr, hz]; rfl
   exact zq443
 have hz' : ((s.size : Int) == 0) = false := by rw [zr]; simp; omega
 have PK := hide1 (k_pick at0 h0 h1 z (by omega) (by omega) w1)
 have TO := hide1 (k_tablesOf fb z f zl okf w1 F1)
 clear okf hz
 subst zr
 go_wp2_with fail
 refine PK.out.mono ?_
 rintro o wp ⟨⟨j, hj, rfl⟩, hwp⟩
 rw [hwp]
 clear hwp wp PK
 go_wp2_with fail
 refine TO.out.mono ?_
 rintro o w2 ⟨⟨tb, b0, b1, b2, b3, b4, rfl, ht, _⟩, hk⟩
 have m2 := hide1 (m1.out.kept hk)
 have K2 := hide1 (K1.out.trans hk)
 clear TO hk m1 K1 F1 c13 fl hz'
 have hd := ht.hdr
 have t0 := hd.cell 0 _ rfl
 have t1 := hd.cell 1 _ rfl
 have tl := hd.lt
 have jd : Int.tdiv (j : Int) 4096 = ((j / 4096 : Nat) : Int) := zq146
 obtain ⟨J, hJ⟩ := zn1 (j / 4096 : Nat)
 obtain ⟨n, hn⟩ := zn1 ((s.size + 4095) / 4096 : Nat)
 rw [<- hJ] at jd
 have hJn : J < (s.size + 4095) / 4096 := by omega
 obtain ⟨r0, e0⟩ := ht.s0.cell J hJn
 obtain ⟨r1, e1⟩ := ht.s1.cell J hJn
 rw [<- hn] at t0 t1 hJn
 have jw : IntKind.i64.wrap (J : Int) = J := zq115
 have jl : (0 : Int) <= (J : Int) /\ (J : Int) < (n : Int) := by omega
 clear ht hd hn hJ
 go_upto_region 7 with fail
 go_cut [60] (fun q wx => (∃ b : Bool, q = .bool b) /\ wx = w2)
 case first =>
  cases r0 <;> cases r1
  all_goals
   as_aux_lemma =>
    go_wp2_with fail
    go_meet
    case rel => exact ⟨⟨_, rfl⟩, rfl⟩
 case rest =>
 obtain ⟨⟨bs, rfl⟩, hwx⟩ := hcut
 rw [hwx]
 clear hwx t0 t1 tl e0 e1 jd jw jl hJn
 cases bs
 rotate_left
 . go_wp2_with fail
   go_ret
   exact ⟨⟨_, rfl⟩, m2.out, K2.out.mono (by simp)⟩
 go_wp2_with fail
 refine (m_Copy mb rb s.size w2 m2.out).mono ?_
 rintro o w3 ⟨rfl, hy, hk⟩
 obtain ⟨yb, hyb⟩ := zn1 (w2.heap.size)
 rw [<- hyb] at hy |-
 have y0 : w.heap.size <= yb := by rw [hyb]; exact K2.out.size
 have y1 : yb + 2 <= w3.heap.size := hy.m.lt.2
 have m3 := hide1 (m2.out.kept hk)
 have K3 := hide1 (K2.out.trans hk)
 have Y3 := hide1 hy
 clear hk hy hyb m2 K2
 go_wp2_with fail
 refine (m_Copy mb rb s.size w3 m3.out).mono ?_
 rintro o w4 ⟨rfl, hv, hk⟩
 obtain ⟨vb, hvb⟩ := zn1 (w3.heap.size)
 rw [<- hvb] at hv |-
 have s4 : Hid (Sx w mb rb s.size yb vb w4) := hide1 ⟨m3.out.kept hk, Y3.out.kept hk, hv, y0, by omega, ml, K3.out.trans hk⟩
 clear hk hv hvb m3 K3 Y3 y0 y1
 have cb1 := conv_one (wi % 256) (by omega) (by omega)
 have cb2 := conv_one (wi / 256 % 256) (by omega) (by omega) (w4.alloc (.cells #[.int .u8 (wi % 256)] 5))
 rw [show (w4.alloc (.cells #[.int .u8 (wi % 256)] 5)).heap.size = w4.heap.size + 1 by simp] at cb2
 obtain ⟨X1, hX1⟩ := zn2 (oneB (wi % 256))
 obtain ⟨X2, hX2⟩ := zn2 (oneB (wi / 256 % 256))
 rw [hX1] at cb1
 rw [hX2] at cb2
 clear hX1 hX2
 have s5 := hide1 (s4.out.kept (((Kept.refl [] w4).alloc (.cells #[.int .u8 (wi % 256)] 5)).alloc (.cells #[.int .u8 (wi / 256 % 256)] 5)))
 clear s4
 go_wp2_with fail
 obtain ⟨W5, hW5⟩ := zn1 ((w4.alloc (.cells #[.int .u8 (wi % 256)] 5)).alloc (.cells #[.int .u8 (wi / 256 % 256)] 5))
 rw [<- hW5] at s5 |-
 clear hW5 cb1 cb2
 refine (m_Load yb (yb + 1) s.size _ _ _ s5.out.y).mono ?_
 rintro o w6 ⟨⟨el, rfl⟩, hm, hk⟩
 have s6 := hide1 (s5.out.actY hm hk)
 clear hm hk s5
 go_wp2_with fail
 refine (m_Load vb (vb + 1) s.size _ _ _ s6.out.v).mono ?_
 rintro o w7 ⟨⟨em, rfl⟩, hm, hk⟩
 have s7 := hide1 (s6.out.actV hm hk)
 clear hm hk s6
 go_wp2_with fail
 refine (m_Step yb (yb + 1) s.size _ s7.out.y).mono ?_
 rintro o w8 ⟨⟨k, c, k0, k1, c0, c1, rfl⟩, hm, hk⟩
 have s8 := hide1 (s7.out.actY hm hk)
 clear hm hk s7 k0 k1 c0 c1
 have s9 := hide1 (s8.out.kept ((Kept.refl [] w8).alloc (.cells #[.int .i64 k, .int .i64 c] 45)))
 have B9 := hide1 (BoxF.new w8 [.int .i64 k, .int .i64 c] 45)
 obtain ⟨pb, hpb⟩ := zn1 (w8.heap.size)
 have lv := s8.out.v.m.lt
 have ly := s8.out.y.m.lt
 rw [<- hpb] at B9 lv ly
 clear s8
 go_wp2_with fail
 rw [<- hpb]
 simp only [List.toArray] at B9
 obtain ⟨W9, hW9⟩ := zn1 (w8.alloc (.cells #[.int .i64 k, .int .i64 c] 45))
 rw [<- hW9] at s9 B9 |-
 clear hW9 hpb
 refine (m_Step vb (vb + 1) s.size _ s9.out.v).mono ?_
 rintro o w10 ⟨⟨k', c', k0, k1, c0, c1, rfl⟩, hm, hk⟩
 have s10 := hide1 (s9.out.actV hm hk)
 have B10 := hide1 (B9.out.more hk (by simp; omega))
 clear hm hk s9 B9 k0 k1 c0 c1 lv ly
 obtain ⟨qb, hqb⟩ := zn1 (w10.heap.size)
 have ka := (Kept.refl [] w10).alloc (.cells #[.int .i64 k', .int .i64 c'] 45)
 have s11 := hide1 (s10.out.kept ka)
 have B11 := hide1 (B10.out.kept ka)
 have D11 := hide1 (BoxF.new w10 [.int .i64 k', .int .i64 c'] 45)
 rw [<- hqb] at D11
 clear ka s10 B10
 go_wp2_with fail
 rw [<- hqb]
 simp only [List.toArray] at D11
 obtain ⟨W11, hW11⟩ := zn1 (w10.alloc (.cells #[.int .i64 k', .int .i64 c'] 45))
 rw [<- hW11] at s11 B11 D11 |-
 clear hW11 hqb
 refine (m_Show yb (yb + 1) _ s11.out.y.m).mono ?_
 rintro o w12 ⟨⟨S1, sa, sb, rfl⟩, hk⟩
 have s12 := hide1 (s11.out.kept hk)
 have B12 := hide1 (B11.out.kept hk)
 have D12 := hide1 (D11.out.kept hk)
 clear hk s11 B11 D11 sa sb
 go_wp2_with fail
 refine (m_Show vb (vb + 1) _ s12.out.v.m).mono ?_
 rintro o w13 ⟨⟨S2, sa, sb, rfl⟩, hk⟩
 have s13 := hide1 (s12.out.kept hk)
 have B13 := hide1 (B12.out.kept hk)
 have D13 := hide1 (D12.out.kept hk)
 clear hk s12 B12 D12 sa sb
 have p0 := B13.out.cell 0 _ rfl
 have p1 := B13.out.cell 1 _ rfl
 have q0 := D13.out.cell 0 _ rfl
 have q1 := D13.out.cell 1 _ rfl
 have ne := fun W => neq_did k c k' c' W
 obtain ⟨bd, hbd⟩ := zn2 ((!(k == k' && c == c')) : Bool)
 simp only [hbd] at ne
 clear hbd
 go_upto_region 19 with fail
 go_cut [97] (fun q wx => (∃ b : Bool, q = .bool b) /\ Hid (Sx w mb rb s.size yb vb wx))
 case first =>
  cases bd
  all_goals
   as_aux_lemma =>
    go_wp2_with fail
    all_goals
     go_meet
     case rel => exact ⟨⟨_, rfl⟩, s13⟩
 case rest =>
 obtain ⟨⟨bs, rfl⟩, s14⟩ := hcut
 clear s13 B13 D13 p0 p1 q0 q1 ne
 cases bs
 rotate_left
 . go_wp2_with fail
   go_ret
   exact ⟨⟨_, rfl⟩, s14.out.m, s14.out.kp.mono (by simp)⟩
 go_wp2_with fail
 refine (k_ram yb (yb + 1) s.size _ (hide1 s14.out.y)).mono ?_
 rintro o wp ⟨⟨Q, hq, rfl⟩, hwp⟩
 rw [hwp]
 clear hwp wp
 go_wp2_with fail
 refine (k_ram vb (vb + 1) s.size _ (hide1 s14.out.v)).mono ?_
 rintro o wp ⟨⟨R, hr, rfl⟩, hwp⟩
 rw [hwp]
 clear hwp wp
 go_upto_region 23 with fail
 have jj : (j : Int) + 1 = ((j + 1 : Nat) : Int) := by omega
 have wj : IntKind.i64.wrap ((j : Int) + 1) = ((j + 1 : Nat) : Int) := by rw [wrap_in _ (by omega)]; omega
 have a1 := slice_lo Q j (by omega)
 have a2 := slice_lo R j (by omega)
 have a3 := slice_mid Q j (j + 1) (by omega) (by omega)
 have a4 := slice_mid R j (j + 1) (by omega) (by omega)
 have a5 := slice_hi Q (j + 1) (by omega)
 have a6 := slice_hi R (j + 1) (by omega)
 obtain ⟨Z1, z1⟩ := zn2 (Q.extract 0 j)
 obtain ⟨Z2, z2⟩ := zn2 (R.extract 0 j)
 obtain ⟨Z3, z3⟩ := zn2 (Q.extract j (j + 1))
 obtain ⟨Z4, z4⟩ := zn2 (R.extract j (j + 1))
 obtain ⟨Z5, z5⟩ := zn2 (Q.extract (j + 1) Q.size)
 obtain ⟨Z6, z6⟩ := zn2 (R.extract (j + 1) R.size)
 rw [z1] at a1
 rw [z2] at a2
 rw [z3] at a3
 rw [z4] at a4
 rw [z5] at a5
 rw [z6] at a6
 obtain ⟨L, hL⟩ := zn1 (j + 1 : Nat)
 rw [<- hL] at wj a3 a4 a5 a6
 clear z1 z2 z3 z4 z5 z6 hL hq hr jj hj
 cases e1 : (Z1.toList == Z2.toList)
 . exact zq442
 cases e2 : (Z3.toList == X1.toList)
 . exact zq442
 cases e3 : (Z4.toList == X2.toList)
 . exact zq442
 exact zq442
def APost (k : Int) (w : World) (mb rb z : Nat) (o : Ending) (w' : World) : Prop := KR k o /\ Mz w' mb rb z /\ Kept [mb, rb] w w'
theorem APost.t {k : Int} {w : World} {mb rb z : Nat} {o : Ending} {w' : World} (h : TPost w mb rb z o w') : APost k w mb rb z o w' := ⟨⟨true, h.1, hide1 (fun _ => rfl)⟩, h.2⟩
theorem APost.m {k : Int} {w : World} {mb rb z : Nat} {o : Ending} {w' : World} (h : MPost w mb rb z o w') (hk : ¬ (k = 1 \/ k = 9 \/ k = 3)) : APost k w mb rb z o w' := by
 obtain ⟨⟨r, e⟩, h2⟩ := h
 exact ⟨⟨r, e, hide1 (fun q => absurd q hk)⟩, h2⟩
set_option maxRecDepth 100000 in
theorem k_plainNT (mb rb z : Nat) (k a b c : Int) (s : ByteArray) (hk : ¬ (k = 2 \/ (4 <= k /\ k <= 8) \/ k = 10 \/ k = 22)) (w : World) (hw : Hid (Mz w mb rb z)) : Calls prog 33 #[.pointer (some ⟨mb, 0, none⟩), .agg #[.int .i64 k, .int .i64 a, .int .i64 b, .int .i64 c, .string s]] w fun o w' => TPost w mb rb z o w' := by
 have k0 : Kept [] w (w.alloc (.cells #[.int .i64 k, .int .i64 a, .int .i64 b, .int .i64 c, .string s] 36)) := zq136
 have M0 := hide1 (hw.out.kept k0)
 have K0 : Hid (Kept [mb, rb] w (w.alloc (.cells #[.int .i64 k, .int .i64 a, .int .i64 b, .int .i64 c, .string s] 36))) := zq138
 have q2 : (k == 2) = false := by simp; omega
 have q4 : (k == 4) = false := by simp; omega
 have q5 : (k == 5) = false := by simp; omega
 have q6 : (k == 6) = false := by simp; omega
 have q7 : (k == 7) = false := by simp; omega
 have q8 : (k == 8) = false := by simp; omega
 have q10 : (k == 10) = false := by simp; omega
 have q22 : (k == 22) = false := by simp; omega
 clear k0 hw hk
 go_enter func33, ntmps33
 go_wp2_with fail
 go_ret
 exact ⟨rfl, M0.out, K0.out⟩
theorem k_plainA (mb rb z : Nat) (k a b c : Int) (s : ByteArray) (w : World) (hw : Hid (Mz w mb rb z)) : Calls prog 33 #[.pointer (some ⟨mb, 0, none⟩), .agg #[.int .i64 k, .int .i64 a, .int .i64 b, .int .i64 c, .string s]] w fun o w' => APost k w mb rb z o w' := by
 by_cases h : k = 2 \/ (4 <= k /\ k <= 8) \/ k = 10 \/ k = 22
 . exact (k_plain mb rb z k a b c s w hw).mono (fun o w' h' => APost.m h' (by omega))
 . exact (k_plainNT mb rb z k a b c s h w hw).mono (fun o w' h => APost.t h)
set_option maxRecDepth 100000 in
theorem k_stepW (wb n : Nat) (k a b c : Int) (s : ByteArray) (hx : LOk ⟨k, a, b, c, s⟩) (hk1 : ¬ k = 1) (hk : k = 3) (P : List Kp1) (g cap : Nat) (hP0 : 0 < P.length) (hPn : P.length <= n) (hP : P.length <= 1073741824) (w : World) (ht : Hid (Tb w)) (hL : Hid (Kw w wb P (.slice (some ⟨g, 0, none⟩) P.length cap))) :
 Calls prog 17 #[.pointer (some ⟨wb, 0, none⟩), .agg #[.int .i64 k, .int .i64 a, .int .i64 b, .int .i64 c, .string s]] w fun e w' => KPost wb n k w e w' := by
 have k0 : Kept [] w (w.alloc (.cells #[.int .i64 k, .int .i64 a, .int .i64 b, .int .i64 c, .string s] 36)) := zq136
 have LA := hide1 (k_lab ⟨k, a, b, c, s⟩ hx _ (hide1 (ht.out.more ((Below.refl _ _).alloc (Nat.le_refl _) (.cells #[.int .i64 k, .int .i64 a, .int .i64 b, .int .i64 c, .string s] 36)))))
 unfold LOp.v at LA
 simp only at LA
 have ha0 : -9223372036854775808 <= a := hx.a0
 have ha1 : a <= 9223372036854775807 := hx.a1
 have hb0 : -9223372036854775808 <= b := hx.b0
 have hb1 : b <= 9223372036854775807 := hx.b1
 have AC := fun (p : Kp1) (W : World) (hW : Mz W p.mb p.rb p.z) => hide1 ((k_watchedT p.mb p.rb p.z W (hide1 hW)).mono (fun o w' h => (APost.t h : APost k W p.mb p.rb p.z o w')))
 have q9 : (k == 9) = false := by simp; omega
 have q3 : (k == 3) = true := by simp [hk]
 exact zq444
set_option maxRecDepth 100000 in
theorem k_stepT (wb n : Nat) (k a b c : Int) (s : ByteArray) (hx : LOk ⟨k, a, b, c, s⟩) (hk1 : ¬ k = 1) (hk : k = 31) (P : List Kp1) (g cap : Nat) (hP0 : 0 < P.length) (hPn : P.length <= n) (hP : P.length <= 1073741824) (w : World) (ht : Hid (Tb w)) (hL : Hid (Kw w wb P (.slice (some ⟨g, 0, none⟩) P.length cap))) :
 Calls prog 17 #[.pointer (some ⟨wb, 0, none⟩), .agg #[.int .i64 k, .int .i64 a, .int .i64 b, .int .i64 c, .string s]] w fun e w' => KPost wb n k w e w' := by
 have k0 : Kept [] w (w.alloc (.cells #[.int .i64 k, .int .i64 a, .int .i64 b, .int .i64 c, .string s] 36)) := zq136
 have LA := hide1 (k_lab ⟨k, a, b, c, s⟩ hx _ (hide1 (ht.out.more ((Below.refl _ _).alloc (Nat.le_refl _) (.cells #[.int .i64 k, .int .i64 a, .int .i64 b, .int .i64 c, .string s] 36)))))
 unfold LOp.v at LA
 simp only at LA
 have ha0 : -9223372036854775808 <= a := hx.a0
 have ha1 : a <= 9223372036854775807 := hx.a1
 have hb0 : -9223372036854775808 <= b := hx.b0
 have hb1 : b <= 9223372036854775807 := hx.b1
 have AC := fun (p : Kp1) (W : World) (hW : Mz W p.mb p.rb p.z) => hide1 ((k_twin p.mb p.rb p.z b W (hide1 hW)).mono (fun o w' h => (APost.m h (by omega) : APost k W p.mb p.rb p.z o w')))
 have q9 : (k == 9) = false := by simp; omega
 have q3 : (k == 3) = false := by simp; omega
 have q31 : (k == 31) = true := by simp [hk]
 exact zq445
set_option maxRecDepth 100000 in
theorem k_stepS (wb n : Nat) (k a b c : Int) (s : ByteArray) (hx : LOk ⟨k, a, b, c, s⟩) (hk1 : ¬ k = 1) (hk : k = 32) (P : List Kp1) (g cap : Nat) (hP0 : 0 < P.length) (hPn : P.length <= n) (hP : P.length <= 1073741824) (w : World) (ht : Hid (Tb w)) (hL : Hid (Kw w wb P (.slice (some ⟨g, 0, none⟩) P.length cap))) :
 Calls prog 17 #[.pointer (some ⟨wb, 0, none⟩), .agg #[.int .i64 k, .int .i64 a, .int .i64 b, .int .i64 c, .string s]] w fun e w' => KPost wb n k w e w' := by
 have k0 : Kept [] w (w.alloc (.cells #[.int .i64 k, .int .i64 a, .int .i64 b, .int .i64 c, .string s] 36)) := zq136
 have LA := hide1 (k_lab ⟨k, a, b, c, s⟩ hx _ (hide1 (ht.out.more ((Below.refl _ _).alloc (Nat.le_refl _) (.cells #[.int .i64 k, .int .i64 a, .int .i64 b, .int .i64 c, .string s] 36)))))
 unfold LOp.v at LA
 simp only at LA
 have ha0 : -9223372036854775808 <= a := hx.a0
 have ha1 : a <= 9223372036854775807 := hx.a1
 have hb0 : -9223372036854775808 <= b := hx.b0
 have hb1 : b <= 9223372036854775807 := hx.b1
 have AC := fun (p : Kp1) (W : World) (hW : Mz W p.mb p.rb p.z) => hide1 ((k_secret p.mb p.rb p.z b c hb0 hb1 W (hide1 hW)).mono (fun o w' h => (APost.m h (by omega) : APost k W p.mb p.rb p.z o w')))
 have q9 : (k == 9) = false := by simp; omega
 have q3 : (k == 3) = false := by simp; omega
 have q31 : (k == 31) = false := by simp; omega
 have q32 : (k == 32) = true := by simp [hk]
 exact zq446
set_option maxRecDepth 100000 in
theorem k_stepP (wb n : Nat) (k a b c : Int) (s : ByteArray) (hx : LOk ⟨k, a, b, c, s⟩) (hk1 : ¬ k = 1) (hk : ¬ (k = 9 \/ k = 3 \/ k = 31 \/ k = 32)) (P : List Kp1) (g cap : Nat) (hP0 : 0 < P.length) (hPn : P.length <= n) (hP : P.length <= 1073741824) (w : World) (ht : Hid (Tb w)) (hL : Hid (Kw w wb P (.slice (some ⟨g, 0, none⟩) P.length cap))) :
 Calls prog 17 #[.pointer (some ⟨wb, 0, none⟩), .agg #[.int .i64 k, .int .i64 a, .int .i64 b, .int .i64 c, .string s]] w fun e w' => KPost wb n k w e w' := by
 have k0 : Kept [] w (w.alloc (.cells #[.int .i64 k, .int .i64 a, .int .i64 b, .int .i64 c, .string s] 36)) := zq136
 have LA := hide1 (k_lab ⟨k, a, b, c, s⟩ hx _ (hide1 (ht.out.more ((Below.refl _ _).alloc (Nat.le_refl _) (.cells #[.int .i64 k, .int .i64 a, .int .i64 b, .int .i64 c, .string s] 36)))))
 unfold LOp.v at LA
 simp only at LA
 have ha0 : -9223372036854775808 <= a := hx.a0
 have ha1 : a <= 9223372036854775807 := hx.a1
 have hb0 : -9223372036854775808 <= b := hx.b0
 have hb1 : b <= 9223372036854775807 := hx.b1
 have AC := fun (p : Kp1) (W : World) (hW : Mz W p.mb p.rb p.z) => hide1 (k_plainA p.mb p.rb p.z k a b c s W (hide1 hW))
 have q9 : (k == 9) = false := by simp; omega
 have q3 : (k == 3) = false := by simp; omega
 exact zq444
end
end Go.Proofs.YtmlgonbhoknoiabGreatDoor
