import Derived.Test.YtmlgonbhoknoiabGreatDoorYAG
set_option maxHeartbeats 8000000
set_option linter.all false
namespace Go.Proofs.YtmlgonbhoknoiabGreatDoor
open Go.RowKit Go.Proofs.Tryz
section
attribute [local go_sem ↓] Go.wp_at_zero Go.wp_at_succ
set_option maxRecDepth 100000 in
theorem k_plain9 (mb : Nat) (k a b c : Int) (s : ByteArray) (hk : k = 9) (w : World) : CK 33 #[.pointer (some ⟨mb, 0, none⟩), .agg #[.int .i64 k, .int .i64 a, .int .i64 b, .int .i64 c, .string s]] (.bool true) w := by
 subst hk
 go_enter func33, ntmps33
 exact zq245
set_option maxRecDepth 100000 in
theorem k_stepC (wb n : Nat) (k a b c : Int) (s : ByteArray) (hx : LOk ⟨k, a, b, c, s⟩) (hk1 : ¬ k = 1) (hk : k = 9) (P : List Kp1) (g cap : Nat) (hP0 : 0 < P.length) (hPn : P.length <= n) (hP : P.length <= 1073741824) (w : World) (ht : Hid (Tb w)) (hL : Hid (Kw w wb P (.slice (some ⟨g, 0, none⟩) P.length cap))) :
 Calls prog 17 #[.pointer (some ⟨wb, 0, none⟩), .agg #[.int .i64 k, .int .i64 a, .int .i64 b, .int .i64 c, .string s]] w fun e w' => KPost wb n k w e w' := by
 have k0 : Kept [] w (w.alloc (.cells #[.int .i64 k, .int .i64 a, .int .i64 b, .int .i64 c, .string s] 36)) := zq136
 have LA := hide1 (k_lab ⟨k, a, b, c, s⟩ hx _ (hide1 (ht.out.more ((Below.refl _ _).alloc (Nat.le_refl _) (.cells #[.int .i64 k, .int .i64 a, .int .i64 b, .int .i64 c, .string s] 36)))))
 unfold LOp.v at LA
 simp only at LA
 have ha0 : -9223372036854775808 <= a := hx.a0
 have ha1 : a <= 9223372036854775807 := hx.a1
 have hb0 : -9223372036854775808 <= b := hx.b0
 have hb1 : b <= 9223372036854775807 := hx.b1
 have AC := fun (p : Kp1) (W : World) (hW : Mz W p.mb p.rb p.z) => hide1 (k_plain9 p.mb k a b c s hk W)
 have q9 : (k == 9) = true := by simp [hk]
 have q3 : (k == 3) = false := by simp; omega
 have q31 : (k == 31) = false := by simp; omega
 have q32 : (k == 32) = false := by simp; omega
 clear hk
 have q1 : (k == 1) = false := by simp [hk1]
 have qP : ((P.length : Int) == 0) = false := zq147
 have L0 := hide1 (hL.out.keep k0)
 have OB0 := hide1 (BoxF.new w [.int .i64 k, .int .i64 a, .int .i64 b, .int .i64 c, .string s] 36)
 have hl := hL.out.lt
 have hl' : ¬ wb = w.heap.size := by omega
 have lP : Hid (∀ i (h : i < P.length), P[i].mb < w.heap.size /\ P[i].rb < w.heap.size) := zq148
 obtain ⟨j, hj, pk⟩ := k_pickE a ha0 ha1 P.length hP0 (by omega)
 have PK := fun W => hide1 (pk W)
 have K0 := hide1 k0
 clear k0 ha0 ha1 hb0 hb1 hx ht pk
 go_enter func17, ntmps17
 go_wp2_with fail
 refine LA.out.mono ?_
 rintro o w1 ⟨⟨r, rfl, hr⟩, hk⟩
 have L1 := hide1 (L0.out.keep hk)
 have OB1 := hide1 (OB0.out.kept hk)
 have K1 := hide1 (K0.out.trans hk)
 have sl := hk.size
 clear LA hk L0 OB0 K0
 cases r
 . exact zq447
 clear hr
 have d0 := L1.out.c0
 have e0 := (L1.out.keep (Kept.refl [] w1).drew).c0
 have o1 := (OB1.out.drew).cell 1 _ rfl
 have e1 : w1.drew.cell? ⟨g, j, none⟩ = some (.pointer (some ⟨P[j].mb, 0, none⟩)) := by
  rw [(L1.out.keep (Kept.refl [] w1).drew).ox.cellAt j (by omega)]
  simp [ptrs, hj]
 have hjj : (0 : Int) <= (j : Int) /\ (j : Int) < (P.length : Int) := by omega
 obtain ⟨p, hp⟩ := zn1 (P[j])
 rw [<- hp] at e1
 have HP := hide1 hp
 clear hp
 go_upto_region 11 with fail
 go_region_held3 (fun w' => w'.cell? ⟨w.heap.size, 1, none⟩ = some (.int .i64 a) /\ w'.cell? ⟨wb, 0, none⟩ = some (.slice (some ⟨g, 0, none⟩) P.length cap) /\ w'.cell? ⟨g, j, none⟩ = some (.pointer (some ⟨p.mb, 0, none⟩))) (first | exact ⟨o1, e0, e1⟩ | go_keep) (first | (go_at_call 28; refine (PK _).out.mono ?_; rintro e w2 ⟨rfl, rfl⟩))
 all_goals
  obtain ⟨W0, hW0⟩ := zn1 (w1.drew)
  have L2 := hide1 (L1.out.keep (Kept.refl [] w1).drew)
  have K2 := hide1 (K1.out.drew)
  have OB2 := hide1 (OB1.out.drew)
  rw [<- hW0] at L2 K2 OB2 o1 e0 e1 |-
  have o0 := OB2.out.cell 0 _ rfl
  have o2 := OB2.out.cell 2 _ rfl
  have o3 := OB2.out.cell 3 _ rfl
  have o4 := OB2.out.cell 4 _ rfl
  have p0 := L2.out.pr j hj
  have HW := hide1 hW0
  have G0 := L2.out.ge j hj
  rw [<- HP.out] at p0 G0
  have AA := hide1 (m_Copy p.mb p.rb p.z W0 p0)
  have P0 := hide1 p0
  have GE := hide1 G0
  clear p0 PK hW0 L1 OB1 K1 d0 G0 e1
  go_wp2_with fail
  refine AA.out.mono ?_
  rintro e w3 ⟨rfl, hm, hk⟩
  have L3 := hide1 (L2.out.keep hk)
  have N3 := hide1 hm
  have OB3 := hide1 (OB2.out.kept hk)
  have K3 := hide1 (K2.out.trans hk)
  have P3 := P0.out.kept hk
  have hs3 : w.heap.size < W0.heap.size := OB2.out.lt
  have JN := hide1 (k_join wb P _ ⟨W0.heap.size, W0.heap.size + 1, p.z⟩ W0.heap.size (by simp) (by omega) (fun q hq => (L2.out.ox.lt q hq).2) (fun i h => (L2.out.pr i h).m.lt) (by omega) w3 L3 N3)
  have l3 := L3.out.lt
  have AP := fun (W : World) (hW : Mz W p.mb p.rb p.z) => AC p W hW
  have P4 := hide1 P3
  obtain ⟨cb, hcb⟩ := zn1 (W0.heap.size)
  simp only [<- hcb] at JN |-
  have PN := hide1 P0.out.m.lt
  have nown : Hid (∀ q, (Value.slice (some ⟨g, 0, none⟩) P.length cap).ownBlock = some q -> ¬ q = p.mb /\ ¬ q = p.rb /\ ¬ q = w.heap.size) := hide1 (fun q hq => ?_)
  rotate_left
  . have su := L2.out.su j hj
    rw [<- HP.out] at su
    have := (hL.out.ox.lt q hq).2
    exact ⟨fun e => su.1 (e ▸ hq), fun e => su.2 (e ▸ hq), by omega⟩
  clear AA hm hk AC hs3 hcb P3 o0 o1 o2 o3 o4 e0 L3 N3 P0 OB2 K2
  go_wp2_with fail
  refine JN.out.mono ?_
  rintro e w4 ⟨rfl, hK4, hk4⟩
  have mo : ¬ p.mb ∈ wb :: (Value.slice (some ⟨g, 0, none⟩) P.length cap).ownBlock.toList := by
   have g1 := GE.out
   intro q
   rcases List.mem_cons.1 q with q | q
   . omega
   . exact ((nown.out _ (by simpa using q)).1) rfl
  have ro : ¬ p.rb ∈ wb :: (Value.slice (some ⟨g, 0, none⟩) P.length cap).ownBlock.toList := by
   have g1 := GE.out
   intro q
   rcases List.mem_cons.1 q with q | q
   . omega
   . exact ((nown.out _ (by simpa using q)).2.1) rfl
  have bo : ¬ w.heap.size ∈ wb :: (Value.slice (some ⟨g, 0, none⟩) P.length cap).ownBlock.toList := by
   intro q
   rcases List.mem_cons.1 q with q | q
   . omega
   . exact ((nown.out _ (by simpa using q)).2.2) rfl
  have OB4 := OB3.out.more hk4 bo
  have o0 := OB4.cell 0 _ rfl
  have o1 := OB4.cell 1 _ rfl
  have o2 := OB4.cell 2 _ rfl
  have o3 := OB4.cell 3 _ rfl
  have o4 := OB4.cell 4 _ rfl
  have A5 := AP w4 (P4.out.more hk4 mo ro)
  have B4 : Hid (Below wb w w4) := hide1 ((kept_below K3.out (by simp) (by omega)).trans (kept_below hk4 (fun q hq => by
   rcases List.mem_cons.1 hq with e | e
   . omega
   . have := (hL.out.ox.lt q (by simpa using e)).1; omega) (by omega)))
  have K4 := hide1 hK4
  clear AP hK4 hk4 OB4 OB3 mo ro bo JN
  go_wp2_with fail
  refine A5.out.mono ?_
  rintro e w5 ⟨rfl, hk5⟩
  go_wp2_with fail
  go_ret
  exact ⟨kr_true k, (K4.out.keep hk5).mono (by omega), B4.out.trans (kept_below hk5 (by simp) (Nat.le_of_lt K4.out.lt))⟩
theorem k_step (wb n : Nat) (hn : n < 1073741824) (x : LOp) (hx : LOk x) (w : World) (ht : Hid (Tb w)) (hw : Hid (KwH w wb n)) :
 Calls prog 17 #[.pointer (some ⟨wb, 0, none⟩), x.v] w fun e w' => KPost wb n x.k w e w' := by
 by_cases h1 : x.k = 1
 . obtain ⟨k, a, b, c, s⟩ := x
   unfold LOp.v
   simp only at h1 |-
   subst h1
   exact (k_step1 wb n hn a b c s w hw).mono (fun e w' h => ⟨⟨true, h.1, hide1 (fun _ => rfl)⟩, h.2⟩)
 . obtain ⟨P, u, hL, hP⟩ := hw.out
   have ox := hL.ox
   by_cases h0 : P.length = 0
   . have hu : ∃ p cap, u = .slice p 0 cap := by
      rcases ox.2 with ⟨e, _⟩ | ⟨g, cap, cur, e, _⟩
      . exact ⟨_, _, e⟩
      . exact ⟨_, _, by rw [e, h0]⟩
     obtain ⟨p, cap, rfl⟩ := hu
     exact k_step0 wb n x hx h1 w ht p cap hL.c0 hw
   . obtain ⟨g, cap, rfl, _, _⟩ := ox.form (by omega)
     obtain ⟨k, a, b, c, s⟩ := x
     unfold LOp.v
     simp only at h1 |-
     by_cases h9 : k = 9
     . exact k_stepC wb n k a b c s hx h1 h9 P g cap (by omega) hP (by omega) w ht (hide1 hL)
     by_cases h3 : k = 3
     . exact k_stepW wb n k a b c s hx h1 h3 P g cap (by omega) hP (by omega) w ht (hide1 hL)
     by_cases h31 : k = 31
     . exact k_stepT wb n k a b c s hx h1 h31 P g cap (by omega) hP (by omega) w ht (hide1 hL)
     by_cases h32 : k = 32
     . exact k_stepS wb n k a b c s hx h1 h32 P g cap (by omega) hP (by omega) w ht (hide1 hL)
     exact k_stepP wb n k a b c s hx h1 (by omega) P g cap (by omega) hP (by omega) w ht (hide1 hL)
structure Lx (w : World) (b o : Nat) (x : LOp) : Prop where
 c0 : w.cell? ⟨b, o, none⟩ = some (.int .i64 x.k)
 c1 : w.cell? ⟨b, o + 1, none⟩ = some (.int .i64 x.a)
 c2 : w.cell? ⟨b, o + 2, none⟩ = some (.int .i64 x.b)
 c3 : w.cell? ⟨b, o + 3, none⟩ = some (.int .i64 x.c)
 c4 : w.cell? ⟨b, o + 4, none⟩ = some (.string x.s)
def LpsAt (w : World) (p : Option Addr) (L : List LOp) : Prop := L = [] \/ ∃ b o, p = some ⟨b, o, none⟩ /\ b < w.heap.size /\ ∀ j (h : j < L.length), Lx w b (o + j * 5) L[j]
theorem Lx.below {w w' : World} {b o n : Nat} {x : LOp} (h : Lx w b o x) (hb : Below n w w') (hn : b < n) : Lx w' b o x :=
 ⟨(hb.cell (p := ⟨b, o, none⟩) hn).trans h.c0, (hb.cell (p := ⟨b, o + 1, none⟩) hn).trans h.c1, (hb.cell (p := ⟨b, o + 2, none⟩) hn).trans h.c2, (hb.cell (p := ⟨b, o + 3, none⟩) hn).trans h.c3, (hb.cell (p := ⟨b, o + 4, none⟩) hn).trans h.c4⟩
theorem LpsAt.below {w w' : World} {p : Option Addr} {L : List LOp} (h : LpsAt w p L) (hb : Below w.heap.size w w') : LpsAt w' p L := by
 rcases h with h | ⟨b, o, rfl, hl, h⟩
 . exact .inl h
 . exact .inr ⟨b, o, rfl, Nat.lt_of_lt_of_le hl hb.size, fun j hj => (h j hj).below hb hl⟩
def SmPost (n : Nat) (e : Ending) : Prop := ∃ r, e = .returned (.bool r) /\ (r = true -> n <= 1073741824)
def KnAt (w : World) (kb : Nat) (K : List Int) : Prop := kb < w.heap.size /\ ∀ j (h : j < K.length), w.cell? ⟨kb, j, none⟩ = some (.int .i64 K[j])
theorem KnAt.below {w w' : World} {kb n : Nat} {K : List Int} (h : KnAt w kb K) (hb : Below n w w') (hn : kb < n) : KnAt w' kb K :=
 ⟨Nat.lt_of_lt_of_le h.1 hb.size, fun j hj => (hb.cell (p := ⟨kb, j, none⟩) hn).trans (h.2 j hj)⟩
def OfR (K : List Int) (k : Int) (e : Ending) : Prop := ∃ r, e = .returned (.bool r) /\ Hid (r = true -> k ∈ K)
theorem k_of (kb cap : Nat) (K : List Int) (hK : K.length <= 100) (k : Int) (w : World) (hw : Hid (KnAt w kb K)) :
 Calls prog 18 #[.slice (some ⟨kb, 0, none⟩) K.length cap, .int .i64 k] w fun e w' => OfR K k e /\ w' = w := by
 go_enter func18, ntmps18
 go_wp2
 go_loop [5] (fun d => ∃ i : Nat, i <= K.length /\ d = .int .i64 i) (fun d => K.length - (intOf d).toNat)
 case atStart => exact ⟨0, by omega, rfl⟩
 case round =>
  obtain ⟨i, hi, rfl⟩ := hrel
  by_cases hlt : i < K.length
  . have c0 := hw.out.2 i hlt
    have hm := hide1 (List.getElem_mem hlt)
    obtain ⟨v, hv⟩ := zn1 (K[i])
    rw [<- hv] at c0 hm
    clear hv
    have hlt' : decide ((i : Int) < (K.length : Int)) = true := by simp; omega
    have hl0 : (0 : Int) <= (i : Int) /\ (i : Int) < (K.length : Int) := by omega
    by_cases he : v = k
    . have he' : (v == k) = true := by simp [he]
      have hmk : Hid (k ∈ K) := hide1 (he ▸ hm.out)
      clear he
      go_wp2
      go_ret
      exact ⟨⟨_, rfl, hide1 (fun _ => hmk.out)⟩, rfl⟩
    . have he' : (v == k) = false := by simp [he]
      clear he
      go_wp2
      go_round
      case rel => exact ⟨i + 1, by omega, by go_num⟩
      case measure => exact zq191
  . have hlt' : decide ((i : Int) < (K.length : Int)) = false := by simp; omega
    go_wp2
    go_ret
    exact ⟨⟨_, rfl, hide1 (fun h => by cases h)⟩, rfl⟩
theorem KwH.new (w : World) : KwH (w.alloc (.cells #[.slice none 0 0] 32)) w.heap.size 0 := by
 refine ⟨[], .slice none 0 0, ?_, by simp⟩
 refine ⟨?_, ?_, ?_, World.ownsRow_nil _ _ _ _, ?_, ?_, ?_, ?_⟩
 case refine_4 => intro a h; simp at h
 case refine_5 => intro a h; simp at h
 case refine_6 => intro a h; simp at h
 case refine_7 => intro a b h; simp at h
 all_goals simp
theorem k_small (p : Option Addr) (cap : Nat) (L : List LOp) (hL : L.length <= 1125899906842624) (hok : Hid (∀ x ∈ L, LOk x)) (w : World) (hw : Hid (LpsAt w p L)) :
 Calls prog 15 #[.slice p L.length cap] w fun e w' => SmPost L.length e /\ w' = w := by
 by_cases hbig : 1073741824 < L.length
 . have hb' : decide (1073741824 < (L.length : Int)) = true := by simp; omega
   go_enter func15, ntmps15
   go_wp2
   go_ret
   exact ⟨⟨_, rfl, by simp⟩, rfl⟩
 . have hb' : decide (1073741824 < (L.length : Int)) = false := by simp; omega
   go_enter func15, ntmps15
   go_wp2
   go_loop [3, 4] (fun c d => ∃ n i : Nat, n <= 1073741824 /\ i <= L.length /\ c = .int .i64 n /\ d = .int .i64 i) (fun _ d => L.length - (intOf d).toNat)
   case atStart => exact ⟨L.length, 0, by omega, by omega, rfl, rfl⟩
   case round =>
    obtain ⟨n, i, hn, hi, rfl, rfl⟩ := hrel
    by_cases hlt : i < L.length
    . rcases hw.out with h0 | ⟨b, o, rfl, hbl, hkx⟩
      . exact zq354
      have c4 := (hkx i hlt).c4
      have hs := (hok.out L[i] (List.getElem_mem hlt)).s1
      obtain ⟨S, hS⟩ := zn1 (L[i].s)
      rw [<- hS] at c4 hs
      clear hS hkx
      by_cases hov : 1073741824 < n + S.size
      . have ho1 : decide (1073741824 < (n : Int) + (S.size : Int)) = true := by simp; omega
        go_wp2
        go_ret
        exact ⟨⟨_, rfl, fun _ => by omega⟩, rfl⟩
      . have ho1 : decide (1073741824 < (n : Int) + (S.size : Int)) = false := by simp; omega
        go_wp2
        go_round
        case rel => exact ⟨n + S.size, i + 1, by omega, by omega, by go_num, by go_num⟩
        case measure => exact zq191
    . have hlt' : decide ((i : Int) < (L.length : Int)) = false := by simp; omega
      go_wp2
      go_ret
      exact ⟨⟨_, rfl, fun _ => by omega⟩, rfl⟩
def aliX : XS := loadX (newX 64) 0 ⟨#[147, 0, 176, 255]⟩
theorem ali_load : loadE (newX 64).b 0 ⟨#[147, 0, 176, 255]⟩ = 0 := by kernel_rfl
theorem ali_kind : (stepX aliX).1.1 = 0 := by kernel_rfl
theorem ali_reg : (stepX aliX).2.x.getD 1 0 = 4294967291 := by kernel_rfl
set_option maxRecDepth 100000 in
theorem k_alive (w : World) : CB 16 #[] (.bool true) w := by
 have XN := hide1 (x_New 64 (by decide) w)
 have hi0 := new_inv 64 (by decide)
 have XL := hide1 (fun W (hW : XAt W (w.heap.size + 1) w.heap.size (newX 64)) => ux_Load (w.heap.size + 1) w.heap.size (newX 64) hi0 0 ⟨#[147, 0, 176, 255]⟩ W hW)
 have eL : loadU (newX 64) 0 ⟨#[147, 0, 176, 255]⟩ = aliX := by unfold loadU; rw [if_pos ali_load]; rfl
 have hi1 : XInv aliX := load_inv hi0 0 _
 have XT := hide1 (fun W (hW : XAt W (w.heap.size + 1) w.heap.size aliX) => x_Step (w.heap.size + 1) w.heap.size aliX hi1 W (hide1 hW))
 have XR := hide1 (fun W (hW : XAt W (w.heap.size + 1) w.heap.size (stepX aliX).2) => ux_Reg (w.heap.size + 1) w.heap.size (stepX aliX).2 1 W hW)
 have eR : regU (stepX aliX).2.x 1 = (4294967291, 0) := by
  unfold regU
  rw [if_pos (by decide)]
  show ((((stepX aliX).2.x.getD 1 0 : Nat) : Int), (0 : Int)) = _
  rw [ali_reg]; rfl
 simp only [eL, ali_load] at XL
 unfold didV at XT
 simp only [ali_kind] at XT
 simp only [eR] at XR
 generalize (stepX aliX).2 = Y at XT XR
 generalize (stepX aliX).1.2 = c at XT
 generalize aliX = Z at XL XT
 generalize newX 64 = N at XN XL
 clear eL eR hi0 hi1
 go_enter func16, ntmps16
 go_wp2_with fail
 refine XN.out.mono ?_
 rintro o w1 ⟨rfl, hx1, hk1⟩
 have XL1 := hide1 (XL.out w1 hx1)
 have K1 := hide1 (kept_below hk1 (by simp) (Nat.le_refl _))
 clear XN XL hx1 hk1
 go_wp2_with fail
 refine XL1.out.mono ?_
 rintro o w2 ⟨rfl, hx2, hk2⟩
 have XT2 := hide1 (XT.out w2 hx2)
 have K2 := hide1 (K1.out.trans (kept_below hk2 (by simp) K1.out.size))
 clear XL1 XT hx2 hk2 K1
 go_wp2_with fail
 refine XT2.out.mono ?_
 rintro o w3 ⟨rfl, hx3, hk3⟩
 have XR3 := hide1 (XR.out _ (hx3.alloc (.cells #[.int .i64 0, .int .i64 c] 45)))
 have K3 := hide1 ((K2.out.trans (kept_below hk3 (by simp) K2.out.size)).alloc (Nat.le_trans K2.out.size hk3.size) (.cells #[.int .i64 0, .int .i64 c] 45))
 clear XT2 XR hx3 hk3 K2
 go_wp2_with fail
 refine XR3.out.mono ?_
 rintro o w4 ⟨rfl, rfl⟩
 clear XR3
 go_wp2_with fail
 go_ret
 exact ⟨rfl, K3.out⟩
set_option maxRecDepth 100000 in
theorem k_playsT (p : Option Addr) (cap kb kcap : Nat) (L : List LOp) (hL : L.length <= 1125899906842624) (hok : Hid (∀ x ∈ L, LOk x)) (w : World) (hw : Hid (LpsAt w p L)) (ht : Hid (Tb w)) (hkn : Hid (KnAt w kb [3])) :
 CB 13 #[.slice p L.length cap, .slice (some ⟨kb, 0, none⟩) 1 kcap] (.bool true) w := by
 have HSM := hide1 (k_small p cap L hL hok w hw)
 have kl := hkn.out.1
 have HB0 : Hid (Below w.heap.size w (w.alloc (.cells #[.slice none 0 0] 32))) := hide1 ((Below.refl _ _).alloc (Nat.le_refl _) _)
 have HX0 := hide1 (KwH.new w)
 have q0 : (w.alloc (.cells #[.slice none 0 0] 32)).cell? ⟨kb, 0, none⟩ = some (.int .i64 3) := (HB0.out.cell kl).trans (hkn.out.2 0 (by simp))
 have HA := hide1 (k_alive (w.alloc (.cells #[.slice none 0 0] 32)))
 go_enter func13, ntmps13
 go_wp2_with fail
 refine HSM.out.mono ?_
 rintro e w1 ⟨⟨r, rfl, hr'⟩, hw1⟩
 rw [hw1]
 clear hw1 w1
 have hr := hide1 hr'
 clear hr' HSM
 cases r
 . go_wp2_with fail
   go_ret
   exact ⟨rfl, Below.refl _ _⟩
 have hL1 := hr.out rfl
 clear hr hL
 go_wp2_with fail
 refine HA.out.mono ?_
 rintro e w1 ⟨rfl, hb1⟩
 have HB1 := hide1 (HB0.out.trans (hb1.mono (by simp)))
 have HX1 := hide1 (HX0.out.keep (Below.kept hb1 []))
 clear HA HB0 HX0 hb1 q0
 go_wp2_with fail
 go_loopw [8] (fun d wr => ∃ i : Nat, i <= L.length /\ d = .int .i64 i /\ Hid (Below w.heap.size w wr) /\ Hid (KwH wr w.heap.size i)) (fun d _ => L.length - (intOf d).toNat)
 case atStart => exact ⟨0, by omega, rfl, HB1, HX1⟩
 case round =>
  obtain ⟨n, hn, rfl, hB, hX⟩ := hrel
  clear HB1 HX1
  by_cases hlt : n < L.length
  . have hops := hide1 (hw.out.below hB.out)
    have htb := hide1 (ht.out.more hB.out)
    rcases hops.out with h0 | ⟨b, o, rfl, hbl, hkx⟩
    . exact zq354
    have hkx := hkx n hlt
    have hxo := hok.out L[n] (List.getElem_mem hlt)
    have hkz : Hid (b < w.heap.size) := by
     rcases hw.out with h0 | ⟨b', o', e', hbl', _⟩
     . exact zq354
     . injection e' with e'; injection e' with e1 e2 e3; subst e1; exact hide1 hbl'
    obtain ⟨x, hx⟩ := zn1 (L[n])
    rw [<- hx] at hkx hxo
    clear hx
    have HST := hide1 (k_step w.heap.size n (by omega) x hxo wr htb hX)
    obtain ⟨k, xa, xb, xc, xs⟩ := x
    unfold LOp.v at HST
    simp only at HST
    have HKX := hide1 hkx
    have c0 := hkx.c0
    have c1 := hkx.c1
    have c2 := hkx.c2
    have c3 := hkx.c3
    have c4 := hkx.c4
    simp only at c0 c1 c2 c3 c4
    have hnn : (0 : Int) <= (n : Int) /\ (n : Int) < (L.length : Int) := by omega
    clear hkx hxo hX hops htb
    go_wp2_with fail
    refine HST.out.mono ?_
    rintro e w2 ⟨⟨r, rfl, hr⟩, hX2, hb2⟩
    have HB2 := hide1 (hB.out.trans hb2)
    have HX2 := hide1 hX2
    have d0 := (HKX.out.below hb2 hkz.out).c0
    simp only at d0
    have KN2 := hide1 (hkn.out.below HB2.out kl)
    have OF := hide1 (k_of kb kcap [3] (by simp) k w2 KN2)
    simp only [List.length_cons, List.length_nil, Nat.zero_add, Nat.reduceAdd] at OF
    have g0 : w2.cell? ⟨kb, 0, none⟩ = some (.int .i64 3) := KN2.out.2 0 (by simp)
    clear c0 c1 c2 c3 c4 HST hX2 hb2 HKX hB KN2
    go_wp2_with fail
    refine OF.out.mono ?_
    rintro e w3 ⟨⟨m, rfl, hm⟩, hw3⟩
    rw [hw3]
    clear hw3 w3 OF
    cases r
    . have nk : ¬ (k = 1 \/ k = 9 \/ k = 3) := fun h => by have := hr.out h; cases this
      have z1 : (k == 1) = false := by simp; omega
      have z9 : (k == 9) = false := by simp; omega
      cases m
      rotate_left
      . have := hm.out rfl
        simp at this
        exact absurd this (by omega)
      clear nk hr hm
      exact zq448
    . clear hr hm
      exact zq448
  . have hlt' : decide ((n : Int) < (L.length : Int)) = false := by simp; omega
    go_wp2_with fail
    go_ret
    exact ⟨rfl, hB.out⟩
theorem k_Watched (p : Option Addr) (cap : Nat) (L : List LOp) (hL : L.length <= 1125899906842624) (hok : Hid (∀ x ∈ L, LOk x)) (w : World) (hw : Hid (LpsAt w p L)) (ht : Hid (Tb w)) :
 CB 11 #[.slice p L.length cap] (.bool true) w := by
 have hb : Hid (Below w.heap.size w (w.alloc (.cells #[.int .i64 3] 3))) := hide1 ((Below.refl _ _).alloc (Nat.le_refl _) _)
 have kn : Hid (KnAt (w.alloc (.cells #[.int .i64 3] 3)) w.heap.size [3]) := hide1 ⟨by simp, fun j hj => by
  match j, hj with
  | 0, _ => simp
  | _ + 1, h => exact absurd h (by simp)⟩
 have HP := hide1 (k_playsT p cap w.heap.size 1 L hL hok _ (hide1 (hw.out.below hb.out)) (hide1 (ht.out.more hb.out)) kn)
 clear kn
 go_enter func11, ntmps11
 go_wp2_with fail
 refine HP.out.mono ?_
 rintro e w1 ⟨rfl, hb1⟩
 go_wp2_with fail
 go_ret
 exact ⟨rfl, hb.out.trans (hb1.mono (by simp))⟩
end
end Go.Proofs.YtmlgonbhoknoiabGreatDoor
