import Derived.Test.YthfofjkfbhahoaaGreatDoorVT
namespace Go.Proofs.YthfofjkfbhahoaaGreatDoor
section
open Go.RowKit
set_option linter.unusedSimpArgs false
/-- a bool; true at the kinds that are held -/
def Res (k : Int) (e : Ending) : Prop := ∃ r, e = .returned (.bool r) ∧ Hid (k = 17 ∨ k = 37 → r = true)
/-- a step of a script -/
structure KOp where
  k : Int
  a : Int
  b : Int
  c : Int
  s : ByteArray
def KOp.v (x : KOp) : Value := .agg #[.int .i64 x.k, .int .i64 x.a, .int .i64 x.b, .int .i64 x.c, .string x.s]
structure KOk (x : KOp) : Prop where
  a0 : -9223372036854775808 ≤ x.a
  a1 : x.a ≤ 9223372036854775807
  c0 : -9223372036854775808 ≤ x.c
  c1 : x.c ≤ 9223372036854775807
  s1 : x.s.size ≤ 1125899906842624
structure Kx (w : World) (b o : Nat) (x : KOp) : Prop where
  c0 : w.cell? ⟨b, o, none⟩ = some (.int .i64 x.k)
  c1 : w.cell? ⟨b, o + 1, none⟩ = some (.int .i64 x.a)
  c2 : w.cell? ⟨b, o + 2, none⟩ = some (.int .i64 x.b)
  c3 : w.cell? ⟨b, o + 3, none⟩ = some (.int .i64 x.c)
  c4 : w.cell? ⟨b, o + 4, none⟩ = some (.string x.s)
def OpsAt (w : World) (p : Option Addr) (L : List KOp) : Prop := L = [] ∨ ∃ b o, p = some ⟨b, o, none⟩ ∧ b < w.heap.size ∧ ∀ j (h : j < L.length), Kx w b (o + j * 5) L[j]
theorem Kx.below {w w' : World} {b o n : Nat} {x : KOp} (h : Kx w b o x) (hb : Below n w w') (hn : b < n) : Kx w' b o x :=
  ⟨(hb.cell (p := ⟨b, o, none⟩) hn).trans h.c0, (hb.cell (p := ⟨b, o + 1, none⟩) hn).trans h.c1, (hb.cell (p := ⟨b, o + 2, none⟩) hn).trans h.c2, (hb.cell (p := ⟨b, o + 3, none⟩) hn).trans h.c3, (hb.cell (p := ⟨b, o + 4, none⟩) hn).trans h.c4⟩
theorem OpsAt.below {w w' : World} {p : Option Addr} {L : List KOp} (h : OpsAt w p L) (hb : Below w.heap.size w w') : OpsAt w' p L := by
  rcases h with h | ⟨b, o, rfl, hl, h⟩
  · exact .inl h
  · exact .inr ⟨b, o, rfl, Nat.lt_of_lt_of_le hl hb.size, fun j hj => (h j hj).below hb hl⟩
set_option maxRecDepth 100000 in
set_option maxHeartbeats 4000000 in
theorem k_lab (x : KOp) (hx : KOk x) (w : World) (ht : Hid (Tb w)) :
    Calls Tryz.prog 24 #[x.v] w fun e w' => Res x.k e ∧ Below w.heap.size w w' := by
  obtain ⟨k, a, b, c, s⟩ := x
  have ha0 : -9223372036854775808 ≤ a := hx.a0
  have ha1 : a ≤ 9223372036854775807 := hx.a1
  have hc0 : -9223372036854775808 ≤ c := hx.c0
  have hc1 : c ≤ 9223372036854775807 := hx.c1
  clear hx
  unfold KOp.v
  simp only
  have HBW : Hid (∀ o, Below w.heap.size w (w.alloc o)) := fun o => (Below.refl _ _).alloc (Nat.le_refl _) _
  have HT : Hid (∀ o, Tb (w.alloc o)) := fun o => ht.out.more (HBW.out o)
  clear ht
  by_cases e17 : k = 17
  · subst e17
    go_enter Tryz.func24, Tryz.ntmps24
    go_wp2_with fail
    refine (k_word b _ (hide1 (HT.out _))).mono ?_
    rintro e w1 ⟨rfl, hb1⟩
    go_wp2
    go_ret
    exact ⟨⟨true, rfl, hide1 (fun _ => rfl)⟩, (HBW.out _).trans (hb1.mono (HBW.out _).size)⟩
  have q17 : (k == 17) = false := by simp [e17]
  by_cases e33 : k = 33
  · subst e33
    go_enter Tryz.func24, Tryz.ntmps24
    go_wp2_with fail
    refine (k_maths a b _).mono ?_
    rintro e w1 ⟨rfl, hb1⟩
    go_wp2
    go_ret
    exact ⟨⟨false, rfl, hide1 (fun h => by rcases h with h | h <;> cases h)⟩, (HBW.out _).trans (hb1.mono (HBW.out _).size)⟩
  have q33 : (k == 33) = false := by simp [e33]
  by_cases e34 : k = 34
  · subst e34
    go_enter Tryz.func24, Tryz.ntmps24
    go_wp2_with fail
    refine (k_echo s _).mono ?_
    rintro e w1 ⟨rfl, hb1⟩
    go_wp2
    go_ret
    exact ⟨⟨false, rfl, hide1 (fun h => by rcases h with h | h <;> cases h)⟩, (HBW.out _).trans (hb1.mono (HBW.out _).size)⟩
  have q34 : (k == 34) = false := by simp [e34]
  by_cases e35 : k = 35
  · subst e35
    go_enter Tryz.func24, Tryz.ntmps24
    go_wp2_with fail
    refine (k_alarm a b _).mono ?_
    rintro e w1 ⟨rfl, hb1⟩
    go_wp2
    go_ret
    exact ⟨⟨false, rfl, hide1 (fun h => by rcases h with h | h <;> cases h)⟩, (HBW.out _).trans (hb1.mono (HBW.out _).size)⟩
  have q35 : (k == 35) = false := by simp [e35]
  by_cases e36 : k = 36
  · subst e36
    go_enter Tryz.func24, Tryz.ntmps24
    go_wp2_with fail
    refine (k_self a _).mono ?_
    rintro e w1 ⟨rfl, hb1⟩
    go_wp2
    go_ret
    exact ⟨⟨false, rfl, hide1 (fun h => by rcases h with h | h <;> cases h)⟩, (HBW.out _).trans (hb1.mono (HBW.out _).size)⟩
  have q36 : (k == 36) = false := by simp [e36]
  by_cases e39 : k = 39
  · subst e39
    go_enter Tryz.func24, Tryz.ntmps24
    go_wp2_with fail
    refine (k_maps a b c hc0 hc1 _).mono ?_
    rintro e w1 ⟨rfl, hb1⟩
    go_wp2
    go_ret
    exact ⟨⟨false, rfl, hide1 (fun h => by rcases h with h | h <;> cases h)⟩, (HBW.out _).trans (hb1.mono (HBW.out _).size)⟩
  have q39 : (k == 39) = false := by simp [e39]
  by_cases e40 : k = 40
  · subst e40
    go_enter Tryz.func24, Tryz.ntmps24
    go_wp2_with fail
    refine (k_crosses a b c _).mono ?_
    rintro e w1 ⟨rfl, hb1⟩
    go_wp2
    go_ret
    exact ⟨⟨false, rfl, hide1 (fun h => by rcases h with h | h <;> cases h)⟩, (HBW.out _).trans (hb1.mono (HBW.out _).size)⟩
  have q40 : (k == 40) = false := by simp [e40]
  by_cases e41 : k = 41
  · subst e41
    go_enter Tryz.func24, Tryz.ntmps24
    go_wp2_with fail
    refine (k_loads a b _).mono ?_
    rintro e w1 ⟨rfl, hb1⟩
    go_wp2
    go_ret
    exact ⟨⟨false, rfl, hide1 (fun h => by rcases h with h | h <;> cases h)⟩, (HBW.out _).trans (hb1.mono (HBW.out _).size)⟩
  have q41 : (k == 41) = false := by simp [e41]
  by_cases e42 : k = 42
  · subst e42
    go_enter Tryz.func24, Tryz.ntmps24
    go_wp2_with fail
    refine (k_branches a b _).mono ?_
    rintro e w1 ⟨rfl, hb1⟩
    go_wp2
    go_ret
    exact ⟨⟨false, rfl, hide1 (fun h => by rcases h with h | h <;> cases h)⟩, (HBW.out _).trans (hb1.mono (HBW.out _).size)⟩
  have q42 : (k == 42) = false := by simp [e42]
  by_cases e43 : k = 43
  · subst e43
    go_enter Tryz.func24, Tryz.ntmps24
    go_wp2_with fail
    refine (k_amos a b _).mono ?_
    rintro e w1 ⟨rfl, hb1⟩
    go_wp2
    go_ret
    exact ⟨⟨false, rfl, hide1 (fun h => by rcases h with h | h <;> cases h)⟩, (HBW.out _).trans (hb1.mono (HBW.out _).size)⟩
  have q43 : (k == 43) = false := by simp [e43]
  by_cases e38 : k = 38
  · subst e38
    go_enter Tryz.func24, Tryz.ntmps24
    go_wp2_with fail
    refine (k_pair a b _).mono ?_
    rintro e w1 ⟨rfl, hb1⟩
    go_wp2
    go_ret
    exact ⟨⟨false, rfl, hide1 (fun h => by rcases h with h | h <;> cases h)⟩, (HBW.out _).trans (hb1.mono (HBW.out _).size)⟩
  have q38 : (k == 38) = false := by simp [e38]
  by_cases e37 : k = 37
  · subst e37
    go_enter Tryz.func24, Tryz.ntmps24
    go_wp2_with fail
    refine (k_pick a ha0 ha1 96 (by decide) (by decide) _).mono ?_
    rintro e w1 ⟨⟨n, hn, rfl⟩, rfl⟩
    go_wp2_with fail
    refine (k_gold n hn _ (hide1 (HT.out _))).mono ?_
    rintro e w1 ⟨rfl, hb1⟩
    go_wp2
    go_ret
    exact ⟨⟨true, rfl, hide1 (fun _ => rfl)⟩, (HBW.out _).trans (hb1.mono (HBW.out _).size)⟩
  have q37 : (k == 37) = false := by simp [e37]
  have HN := hide1 (And.intro e17 e37)
  clear e17 e33 e34 e35 e36 e39 e40 e41 e42 e43 e38 e37
  go_enter Tryz.func24, Tryz.ntmps24
  go_wp2
  go_ret
  exact ⟨⟨true, rfl, hide1 (fun _ => rfl)⟩, HBW.out _⟩
set_option maxHeartbeats 4000000 in
theorem k_step (wb : Nat) (x : KOp) (hx : KOk x) (w : World) (ht : Hid (Tb w)) (hwb : wb < w.heap.size) (hc : w.cell? ⟨wb, 0, none⟩ = some (.slice none 0 0)) :
    Calls Tryz.prog 16 #[.pointer (some ⟨wb, 0, none⟩), x.v] w fun e w' => Res x.k e ∧ Below w.heap.size w w' := by
  have HBW : Hid (∀ o, Below w.heap.size w (w.alloc o)) := fun o => (Below.refl _ _).alloc (Nat.le_refl _) _
  have HT : Hid (∀ o, Tb (w.alloc o)) := fun o => ht.out.more (HBW.out o)
  have hlab := fun W hW => k_lab x hx W hW
  obtain ⟨k, a, b, c, s⟩ := x
  unfold KOp.v at hlab ⊢
  simp only at hlab ⊢
  have HL := hide1 hlab
  clear hlab ht
  by_cases e1 : k = 1
  · subst e1
    by_cases b0 : 0 ≤ b
    · by_cases b1 : b ≤ 65536
      · go_enter Tryz.func16, Tryz.ntmps16
        go_wp2_with fail
        refine (m_New b _).mono ?_
        rintro e w1 ⟨rfl, rfl⟩
        go_wp2
        go_ret
        exact ⟨⟨_, rfl, hide1 (fun h => by rcases h with h | h <;> cases h)⟩, HBW.out _⟩
      · go_enter Tryz.func16, Tryz.ntmps16
        go_wp2_with fail
        refine (m_New b _).mono ?_
        rintro e w1 ⟨rfl, rfl⟩
        go_wp2
        go_ret
        exact ⟨⟨_, rfl, hide1 (fun h => by rcases h with h | h <;> cases h)⟩, HBW.out _⟩
    · go_enter Tryz.func16, Tryz.ntmps16
      go_wp2_with fail
      refine (m_New b _).mono ?_
      rintro e w1 ⟨rfl, rfl⟩
      go_wp2
      go_ret
      exact ⟨⟨_, rfl, hide1 (fun h => by rcases h with h | h <;> cases h)⟩, HBW.out _⟩
  · have q1 : (k == 1) = false := by simp [e1]
    clear e1
    go_enter Tryz.func16, Tryz.ntmps16
    go_wp2_with fail
    refine (HL.out _ (hide1 (HT.out _))).mono ?_
    rintro e w1 ⟨⟨r, rfl, hr⟩, hb1⟩
    have HB1 := hide1 ((HBW.out _).trans (hb1.mono (HBW.out _).size))
    have hc1 : w1.cell? ⟨wb, 0, none⟩ = some (.slice none 0 0) := (HB1.out.cell (p := ⟨wb, 0, none⟩) hwb).trans hc
    cases r
    · go_wp2
      go_ret
      exact ⟨⟨false, rfl, hr⟩, HB1.out⟩
    · go_wp2
      go_ret
      exact ⟨⟨true, rfl, hide1 (fun _ => rfl)⟩, HB1.out⟩
set_option maxHeartbeats 400000 in
theorem k_of (kb : Nat) (c k : Int) (w : World) (hc : w.cell? ⟨kb, 0, none⟩ = some (.int .i64 c)) :
    Calls Tryz.prog 17 #[.slice (some ⟨kb, 0, none⟩) 1 1, .int .i64 k] w fun e w' => e = .returned (.bool (c == k)) ∧ w' = w := by
  by_cases h : c = k
  · have h' : (c == k) = true := by simp [h]
    rw [h']
    clear h
    go_enter Tryz.func17, Tryz.ntmps17
    go_wp2
    go_loop [5] (fun d => d = .int .i64 0) (fun d => 1 - (intOf d).toNat)
    case atStart => rfl
    case round =>
      subst hrel
      go_wp2
      go_ret
      exact ⟨rfl, rfl⟩
  · have h' : (c == k) = false := by simp [h]
    rw [h']
    clear h
    go_enter Tryz.func17, Tryz.ntmps17
    go_wp2
    go_loop [5] (fun d => d = .int .i64 0 ∨ d = .int .i64 1) (fun d => 1 - (intOf d).toNat)
    case atStart => exact .inl rfl
    case round =>
      rcases hrel with rfl | rfl
      · go_wp2
        go_round
        case rel => exact .inr rfl
        case measure => simp [intOf]
      · go_wp2
        go_ret
        exact ⟨rfl, rfl⟩
def SomeBool (e : Ending) : Prop := ∃ r, e = .returned (.bool r)
set_option maxHeartbeats 1000000 in
theorem k_small (p : Option Addr) (cap : Nat) (L : List KOp) (hL : L.length ≤ 1125899906842624) (hok : Hid (∀ x ∈ L, KOk x)) (w : World) (hw : Hid (OpsAt w p L)) :
    Calls Tryz.prog 14 #[.slice p L.length cap] w fun e w' => SomeBool e ∧ w' = w := by
  by_cases hbig : 1073741824 < L.length
  · have hb' : decide (1073741824 < (L.length : Int)) = true := by simp; omega
    go_enter Tryz.func14, Tryz.ntmps14
    go_wp2
    go_ret
    exact ⟨⟨_, rfl⟩, rfl⟩
  · have hb' : decide (1073741824 < (L.length : Int)) = false := by simp; omega
    go_enter Tryz.func14, Tryz.ntmps14
    go_wp2
    go_loop [3, 4] (fun c d => ∃ n i : Nat, n ≤ 1073741824 ∧ i ≤ L.length ∧ c = .int .i64 n ∧ d = .int .i64 i) (fun _ d => L.length - (intOf d).toNat)
    case atStart => exact ⟨L.length, 0, by omega, by omega, rfl, rfl⟩
    case round =>
      obtain ⟨n, i, hn, hi, rfl, rfl⟩ := hrel
      by_cases hlt : i < L.length
      · rcases hw.out with h0 | ⟨b, o, rfl, hbl, hkx⟩
        · rw [h0] at hlt; simp at hlt
        have c4 := (hkx i hlt).c4
        have hs := (hok.out L[i] (List.getElem_mem hlt)).s1
        obtain ⟨S, hS⟩ : ∃ S, S = L[i].s := ⟨_, rfl⟩
        rw [← hS] at c4 hs
        clear hS hkx
        by_cases hov : 1073741824 < n + S.size
        · have ho1 : decide (1073741824 < (n : Int) + (S.size : Int)) = true := by simp; omega
          go_wp2
          go_ret
          exact ⟨⟨_, rfl⟩, rfl⟩
        · have ho1 : decide (1073741824 < (n : Int) + (S.size : Int)) = false := by simp; omega
          go_wp2
          go_round
          case rel => exact ⟨n + S.size, i + 1, by omega, by omega, by go_num, by go_num⟩
          case measure => simp [intOf]; omega
      · have hlt' : decide ((i : Int) < (L.length : Int)) = false := by simp; omega
        go_wp2
        go_ret
        exact ⟨⟨_, rfl⟩, rfl⟩
end
section
open Go.RowKit
set_option linter.unusedSimpArgs false
set_option maxHeartbeats 4000000 in
theorem k_plays (p : Option Addr) (cap : Nat) (L : List KOp) (hL : L.length ≤ 1125899906842624) (hok : Hid (∀ x ∈ L, KOk x)) (kb : Nat) (c : Int) (hc : c = 17 ∨ c = 37) (w : World) (hw : Hid (OpsAt w p L)) (ht : Hid (Tb w)) (hkb : kb < w.heap.size) (hkc : w.cell? ⟨kb, 0, none⟩ = some (.int .i64 c)) :
    Calls Tryz.prog 10 #[.slice p L.length cap, .slice (some ⟨kb, 0, none⟩) 1 1] w fun e w' => e = .returned (.bool true) ∧ Below w.heap.size w w' := by
  have HC := hide1 hc
  have HKC := hide1 hkc
  obtain ⟨c17, hc17⟩ : ∃ b : Bool, (c != 17) = b := ⟨_, rfl⟩
  obtain ⟨c37, hc37⟩ : ∃ b : Bool, (c != 37) = b := ⟨_, rfl⟩
  have hcc : (c17 = false ∧ c37 = true) ∨ (c17 = true ∧ c37 = false) := by
    rcases hc with rfl | rfl
    · left; exact ⟨hc17.symm, hc37.symm⟩
    · right; exact ⟨hc17.symm, hc37.symm⟩
  clear hc
  have hsm := k_small p cap L hL hok w hw
  have HSM := hide1 hsm
  clear hsm
  go_enter Tryz.func10, Tryz.ntmps10
  go_wp2_with fail
  refine HSM.out.mono ?_
  rintro e w1 ⟨⟨r, rfl⟩, rfl⟩
  cases r
  · go_wp2
    go_ret
    exact ⟨rfl, Below.refl _ _⟩
  have HBW : Hid (Below w1.heap.size w1 (w1.alloc (.cells #[.slice none 0 0] 34))) := (Below.refl _ _).alloc (Nat.le_refl _) _
  clear HSM
  rcases hcc with ⟨rfl, rfl⟩ | ⟨rfl, rfl⟩
  · go_wp2_with fail
    go_loopw [8] (fun d wr => ∃ i : Nat, i ≤ L.length ∧ d = .int .i64 i ∧ Hid (Below (w1.alloc (.cells #[.slice none 0 0] 34)).heap.size (w1.alloc (.cells #[.slice none 0 0] 34)) wr)) (fun d _ => L.length - (intOf d).toNat)
    case atStart => exact ⟨0, by omega, rfl, hide1 (Below.refl _ _)⟩
    case round =>
      obtain ⟨i, hi, rfl, hB⟩ := hrel
      by_cases hlt : i < L.length
      · have HALL := hide1 (HBW.out.trans (hB.out.mono HBW.out.size))
        have hwc : wr.cell? ⟨w1.heap.size, 0, none⟩ = some (.slice none 0 0) := (hB.out.cell (p := ⟨w1.heap.size, 0, none⟩) (by simp)).trans (by simp)
        have hwl : w1.heap.size < wr.heap.size := Nat.lt_of_lt_of_le (by simp) hB.out.size
        have hkc2 : wr.cell? ⟨kb, 0, none⟩ = some (.int .i64 c) := (HALL.out.cell (p := ⟨kb, 0, none⟩) hkb).trans HKC.out
        have hkb2 : kb < wr.heap.size := Nat.lt_of_lt_of_le hkb HALL.out.size
        have hops := hide1 (hw.out.below HALL.out)
        have htb := hide1 (ht.out.more HALL.out)
        rcases hops.out with h0 | ⟨b, o, rfl, hbl, hkx⟩
        · rw [h0] at hlt; simp at hlt
        have hkx := hkx i hlt
        have hxo := hok.out L[i] (List.getElem_mem hlt)
        obtain ⟨x, hx⟩ : ∃ x, x = L[i] := ⟨_, rfl⟩
        rw [← hx] at hkx hxo
        clear hx
        have hst := k_step w1.heap.size x hxo wr htb hwl hwc
        have HKX := hide1 hkx
        obtain ⟨xk, xa, xb, xc, xs⟩ := x
        unfold KOp.v at hst
        simp only at hst
        have HST := hide1 hst
        have c0 := hkx.c0
        have c1 := hkx.c1
        have c2 := hkx.c2
        have c3 := hkx.c3
        have c4 := hkx.c4
        simp only at c0 c1 c2 c3 c4
        clear hst hkx hxo hwc hwl
        go_wp2_with fail
        refine HST.out.mono ?_
        rintro e w2 ⟨⟨r, rfl, hr⟩, hb2⟩
        have d0 : w2.cell? ⟨b, o + i * 5, none⟩ = some (.int .i64 xk) := (HKX.out.below hb2 hbl).c0
        have hkc3 : w2.cell? ⟨kb, 0, none⟩ = some (.int .i64 c) := (hb2.cell (p := ⟨kb, 0, none⟩) hkb2).trans hkc2
        have HB2 := hide1 (hB.out.trans (hb2.mono hB.out.size))
        clear c0 c1 c2 c3 c4 HST HKX hops HALL
        cases r
        · have hne : (c == xk) = false := by
            have h17 : ¬ xk = 17 := fun h => by have := hr.out (.inl h); cases this
            have h37 : ¬ xk = 37 := fun h => by have := hr.out (.inr h); cases this
            rw [beq_eq_false_iff_ne]
            intro h
            rcases HC.out with h' | h'
            · exact h17 (by rw [← h, h'])
            · exact h37 (by rw [← h, h'])
          go_wp2_with fail
          refine (k_of kb c xk _ hkc3).mono ?_
          rintro e w3 ⟨rfl, rfl⟩
          rw [hne]
          go_wp2
          go_roundw
          case rel => exact ⟨i + 1, by omega, by go_num, HB2⟩
          case measure => simp [intOf]; omega
        · go_wp2_with fail
          refine (k_of kb c xk _ hkc3).mono ?_
          rintro e w3 ⟨rfl, rfl⟩
          go_wp2
          go_roundw
          case rel => exact ⟨i + 1, by omega, by go_num, HB2⟩
          case measure => simp [intOf]; omega
      · have hlt' : decide ((i : Int) < (L.length : Int)) = false := by simp; omega
        go_wp2
        go_ret
        exact ⟨rfl, HBW.out.trans (hB.out.mono HBW.out.size)⟩
  · go_wp2_with fail
    go_loopw [8] (fun d wr => ∃ i : Nat, i ≤ L.length ∧ d = .int .i64 i ∧ Hid (Below (w1.alloc (.cells #[.slice none 0 0] 34)).heap.size (w1.alloc (.cells #[.slice none 0 0] 34)) wr)) (fun d _ => L.length - (intOf d).toNat)
    case atStart => exact ⟨0, by omega, rfl, hide1 (Below.refl _ _)⟩
    case round =>
      obtain ⟨i, hi, rfl, hB⟩ := hrel
      by_cases hlt : i < L.length
      · have HALL := hide1 (HBW.out.trans (hB.out.mono HBW.out.size))
        have hwc : wr.cell? ⟨w1.heap.size, 0, none⟩ = some (.slice none 0 0) := (hB.out.cell (p := ⟨w1.heap.size, 0, none⟩) (by simp)).trans (by simp)
        have hwl : w1.heap.size < wr.heap.size := Nat.lt_of_lt_of_le (by simp) hB.out.size
        have hkc2 : wr.cell? ⟨kb, 0, none⟩ = some (.int .i64 c) := (HALL.out.cell (p := ⟨kb, 0, none⟩) hkb).trans HKC.out
        have hkb2 : kb < wr.heap.size := Nat.lt_of_lt_of_le hkb HALL.out.size
        have hops := hide1 (hw.out.below HALL.out)
        have htb := hide1 (ht.out.more HALL.out)
        rcases hops.out with h0 | ⟨b, o, rfl, hbl, hkx⟩
        · rw [h0] at hlt; simp at hlt
        have hkx := hkx i hlt
        have hxo := hok.out L[i] (List.getElem_mem hlt)
        obtain ⟨x, hx⟩ : ∃ x, x = L[i] := ⟨_, rfl⟩
        rw [← hx] at hkx hxo
        clear hx
        have hst := k_step w1.heap.size x hxo wr htb hwl hwc
        have HKX := hide1 hkx
        obtain ⟨xk, xa, xb, xc, xs⟩ := x
        unfold KOp.v at hst
        simp only at hst
        have HST := hide1 hst
        have c0 := hkx.c0
        have c1 := hkx.c1
        have c2 := hkx.c2
        have c3 := hkx.c3
        have c4 := hkx.c4
        simp only at c0 c1 c2 c3 c4
        clear hst hkx hxo hwc hwl
        go_wp2_with fail
        refine HST.out.mono ?_
        rintro e w2 ⟨⟨r, rfl, hr⟩, hb2⟩
        have d0 : w2.cell? ⟨b, o + i * 5, none⟩ = some (.int .i64 xk) := (HKX.out.below hb2 hbl).c0
        have hkc3 : w2.cell? ⟨kb, 0, none⟩ = some (.int .i64 c) := (hb2.cell (p := ⟨kb, 0, none⟩) hkb2).trans hkc2
        have HB2 := hide1 (hB.out.trans (hb2.mono hB.out.size))
        clear c0 c1 c2 c3 c4 HST HKX hops HALL
        cases r
        · have hne : (c == xk) = false := by
            have h17 : ¬ xk = 17 := fun h => by have := hr.out (.inl h); cases this
            have h37 : ¬ xk = 37 := fun h => by have := hr.out (.inr h); cases this
            rw [beq_eq_false_iff_ne]
            intro h
            rcases HC.out with h' | h'
            · exact h17 (by rw [← h, h'])
            · exact h37 (by rw [← h, h'])
          go_wp2_with fail
          refine (k_of kb c xk _ hkc3).mono ?_
          rintro e w3 ⟨rfl, rfl⟩
          rw [hne]
          go_wp2
          go_roundw
          case rel => exact ⟨i + 1, by omega, by go_num, HB2⟩
          case measure => simp [intOf]; omega
        · go_wp2_with fail
          refine (k_of kb c xk _ hkc3).mono ?_
          rintro e w3 ⟨rfl, rfl⟩
          go_wp2
          go_roundw
          case rel => exact ⟨i + 1, by omega, by go_num, HB2⟩
          case measure => simp [intOf]; omega
      · have hlt' : decide ((i : Int) < (L.length : Int)) = false := by simp; omega
        go_wp2
        go_ret
        exact ⟨rfl, HBW.out.trans (hB.out.mono HBW.out.size)⟩
set_option maxHeartbeats 1000000 in
theorem k_Words (p : Option Addr) (cap : Nat) (L : List KOp) (hL : L.length ≤ 1125899906842624) (hok : Hid (∀ x ∈ L, KOk x)) (w : World) (hw : Hid (OpsAt w p L)) (ht : Hid (Tb w)) :
    Calls Tryz.prog 7 #[.slice p L.length cap] w fun e w' => e = .returned (.bool true) ∧ Below w.heap.size w w' := by
  have hmk : (Instr.buildSlice 27 1 #[(0, .int .i64 17)]).run Tryz.prog w = .ok (.slice (some ⟨w.heap.size, 0, none⟩) 1 1) (w.alloc (.cells #[.int .i64 17] 3)) := by kernel_rfl
  have hbw : Below w.heap.size w (w.alloc (.cells #[.int .i64 17] 3)) := (Below.refl _ _).alloc (Nat.le_refl _) _
  have hp := k_plays p cap L hL hok w.heap.size 17 (.inl rfl) (w.alloc (.cells #[.int .i64 17] 3)) (hide1 (hw.out.below hbw)) (hide1 (ht.out.more hbw)) (by simp) (by simp)
  have HP := hide1 hp
  have HBW := hide1 hbw
  clear hp hbw
  go_enter Tryz.func7, Tryz.ntmps7
  go_wp2_with fail
  refine HP.out.mono ?_
  rintro e w1 ⟨rfl, hb1⟩
  go_wp2
  go_ret
  exact ⟨rfl, HBW.out.trans (hb1.mono HBW.out.size)⟩
end
end Go.Proofs.YthfofjkfbhahoaaGreatDoor
