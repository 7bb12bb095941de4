import Derived.Test.YthfofjkfbhahoaaGreatDoorYE
section
namespace Go.Proofs.YthfofjkfbhahoaaGreatDoor
open Go.RowKit
set_option linter.unusedSimpArgs false
set_option maxHeartbeats 4000000 in
theorem l_step (wb : Nat) (x : LOp) (hx : LOk x) (w : World) (ht : Hid (Tb w)) (i : Ins) (hi : Hid (Wx w wb i)) (h0 : i.rd ≤ 9223372036854775807) (h1 : i.rs1 ≤ 9223372036854775807) :
    Calls Tryz.prog 22 #[.pointer (some ⟨wb, 0, none⟩), x.v] w fun e w' => Res1 x.k e ∧ WPost wb w w' := by
  have HBW : Hid (∀ o, Below w.heap.size w (w.alloc o)) := fun o => (Below.refl _ _).alloc (Nat.le_refl _) _
  have HT : Hid (∀ o, Tb (w.alloc o)) := fun o => ht.out.more (HBW.out o)
  obtain ⟨k, a, b, c, s⟩ := x
  have ha1 : a ≤ 9223372036854775807 := hx.a1
  have hb1 : b ≤ 9223372036854775807 := hx.b1
  have hc1 : c ≤ 9223372036854775807 := hx.c1
  have HO := hide1 (And.intro h0 (And.intro h1 (And.intro ha1 (And.intro hb1 hc1))))
  unfold LOp.v
  simp only
  have x0 := hi.out.c0
  have x1 := hi.out.c1
  have x2 := hi.out.c2
  have x3 := hi.out.c3
  have x4 := hi.out.c4
  have x5 := hi.out.c5
  have x6 := hi.out.c6
  have x7 := hi.out.c7
  have xf := hi.out.fro
  have xl := hi.out.lt
  clear hx ht h0 h1 ha1 hb1 hc1
  by_cases e17 : k = 17
  · subst e17
    clear x0 x1 x2 x3 x4 x5 x6 x7 xf
    go_enter Tryz.func22, Tryz.ntmps22
    go_wp2_with fail
    refine (l_decodes b _).mono ?_
    rintro e w1 ⟨rfl, hb1⟩
    go_wp2_with fail
    go_ret
    exact ⟨⟨true, rfl, hide1 (fun _ => rfl)⟩, wpost_more hi.out HO.out.1 HO.out.2.1 ((HBW.out _).trans (hb1.mono (HBW.out _).size))⟩
  have q17 : (k == 17) = false := by simp [e17]
  by_cases e18 : k = 18
  · subst e18
    have hw0 := Wx.put hi.out a b c 0 0 0
    have HWX := hide1 (hw0.more ((Below.refl _ _).alloc (Nat.le_refl _) (LOp.o ⟨18, a, b, c, s⟩)) hw0.lt)
    have hb0 := ((((((Below.refl wb w).setCell (p := ⟨wb, 2, none⟩) (by simp) (.int .i64 a)).setCell (p := ⟨wb, 3, none⟩) (by simp) (.int .i64 b)).setCell (p := ⟨wb, 4, none⟩) (by simp) (.int .i64 c)).setCell (p := ⟨wb, 5, none⟩) (by simp) (.int .i64 0)).setCell (p := ⟨wb, 6, none⟩) (by simp) (.int .i64 0)).setCell (p := ⟨wb, 7, none⟩) (by simp) (.int .i64 0)
    have HWB := hide1 (hb0.alloc (Nat.le_of_lt hw0.lt) (LOp.o ⟨18, a, b, c, s⟩))
    unfold LOp.o at HWX HWB
    simp only at HWX HWB
    clear hw0 hb0
    go_enter Tryz.func22, Tryz.ntmps22
    go_wp2_with fail
    go_ret
    refine ⟨⟨true, rfl, hide1 (fun _ => rfl)⟩, ?_, ⟨a, b, c, 0, 0, 0⟩, ?_, HO.out.2.2.2.1, HO.out.2.2.2.2⟩
    · with_reducible exact HWB.out
    · with_reducible exact HWX.out
  have q18 : (k == 18) = false := by simp [e18]
  by_cases e19 : k = 19
  · subst e19
    have he := fun W => l_encodes ⟨i.op, i.rd, i.rs1, a, b, c⟩ HO.out.1 HO.out.2.1 HO.out.2.2.1 W
    have HE := hide1 he
    unfold insV at HE
    clear he
    go_enter Tryz.func22, Tryz.ntmps22
    go_wp2_with fail
    refine (HE.out _).mono ?_
    rintro e w1 ⟨rfl, hb1⟩
    go_wp2_with fail
    go_ret
    exact ⟨⟨true, rfl, hide1 (fun _ => rfl)⟩, wpost_more hi.out HO.out.1 HO.out.2.1 (((HBW.out _).alloc (HBW.out _).size _).trans (hb1.mono ((HBW.out _).alloc (HBW.out _).size _).size))⟩
  have q19 : (k == 19) = false := by simp [e19]
  clear x1 x2 x3 x4 x5 x6 x7 xf
  by_cases e21 : k = 21
  · subst e21
    clear x0
    go_enter Tryz.func22, Tryz.ntmps22
    go_wp2_with fail
    refine (l_writes b _ (hide1 (HT.out _))).mono ?_
    rintro e w1 ⟨rfl, hb1⟩
    go_wp2_with fail
    go_ret
    exact ⟨⟨true, rfl, hide1 (fun _ => rfl)⟩, wpost_more hi.out HO.out.1 HO.out.2.1 ((HBW.out _).trans (hb1.mono (HBW.out _).size))⟩
  have q21 : (k == 21) = false := by simp [e21]
  by_cases e20 : k = 20
  · subst e20
    clear x0
    go_enter Tryz.func22, Tryz.ntmps22
    go_wp2_with fail
    refine (l_assembles s _).mono ?_
    rintro e w1 ⟨⟨X, rfl⟩, hb1⟩
    have d0 : w1.cell? ⟨w.heap.size, 0, none⟩ = some (.int .i64 20) := (hb1.cell (p := ⟨w.heap.size, 0, none⟩) (by simp)).trans (by simp)
    have HB1 := hide1 ((HBW.out _).trans (hb1.mono (HBW.out _).size))
    clear hb1
    go_wp2_with fail
    go_ret
    exact ⟨⟨true, rfl, hide1 (fun _ => rfl)⟩, wpost_more hi.out HO.out.1 HO.out.2.1 HB1.out⟩
  have q20 : (k == 20) = false := by simp [e20]
  by_cases e22 : k = 22
  · subst e22
    have hdr := fun X W => l_drive wb ⟨2, a, b, c, X⟩ W
    have HD := hide1 hdr
    unfold LOp.v at HD
    simp only at HD
    clear hdr
    go_enter Tryz.func22, Tryz.ntmps22
    go_wp2_with fail
    refine (l_assembles s _).mono ?_
    rintro e w1 ⟨⟨X, rfl⟩, hb1⟩
    have d0 : w1.cell? ⟨w.heap.size, 0, none⟩ = some (.int .i64 22) := (hb1.cell (p := ⟨w.heap.size, 0, none⟩) (by simp)).trans (by simp)
    have d1 : w1.cell? ⟨w.heap.size, 1, none⟩ = some (.int .i64 a) := (hb1.cell (p := ⟨w.heap.size, 1, none⟩) (by simp)).trans (by simp)
    have d2 : w1.cell? ⟨w.heap.size, 2, none⟩ = some (.int .i64 b) := (hb1.cell (p := ⟨w.heap.size, 2, none⟩) (by simp)).trans (by simp)
    have d3 : w1.cell? ⟨w.heap.size, 3, none⟩ = some (.int .i64 c) := (hb1.cell (p := ⟨w.heap.size, 3, none⟩) (by simp)).trans (by simp)
    have d4 : w1.cell? ⟨w.heap.size, 4, none⟩ = some (.string s) := (hb1.cell (p := ⟨w.heap.size, 4, none⟩) (by simp)).trans (by simp)
    have df0 : w1.frozen? ⟨w.heap.size, 0, none⟩ = false := (hb1.frozen (p := ⟨w.heap.size, 0, none⟩) (by simp)).trans (by simp)
    have df4 : w1.frozen? ⟨w.heap.size, 4, none⟩ = false := (hb1.frozen (p := ⟨w.heap.size, 4, none⟩) (by simp)).trans (by simp)
    have dl : w.heap.size < w1.heap.size := Nat.lt_of_lt_of_le (by simp) hb1.size
    have HB1 := hide1 ((HBW.out _).trans (hb1.mono (HBW.out _).size))
    have HB2 : Hid (Below w.heap.size w ((w1.setCell ⟨w.heap.size, 0, none⟩ (.int .i64 2)).setCell ⟨w.heap.size, 4, none⟩ (.string X))) := hide1 ((HB1.out.setCell (by simp) _).setCell (by simp) _)
    have hcw := HD.out X _ ((HB2.out.cell (p := ⟨wb, 0, none⟩) xl).trans x0) (Nat.lt_of_lt_of_le xl HB2.out.size)
    have HC := hide1 hcw
    clear hb1 hcw HD
    go_wp2_with fail
    refine HC.out.mono ?_
    rintro e w2 ⟨⟨r, rfl, hr⟩, hb2⟩
    have hr1 := hr.out (by decide)
    subst hr1
    go_wp2_with fail
    go_ret
    exact ⟨⟨true, rfl, hide1 (fun _ => rfl)⟩, wpost_more hi.out HO.out.1 HO.out.2.1 (HB2.out.trans (hb2.mono HB2.out.size))⟩
  have q22 : (k == 22) = false := by simp [e22]
  have hdr := fun W => l_drive wb ⟨k, a, b, c, s⟩ W
  have HD := hide1 hdr
  unfold LOp.v at HD
  simp only at HD
  clear hdr e17 e18 e19 e20 e21 e22
  have hcw := fun o => HD.out (w.alloc o) (((HBW.out o).cell (p := ⟨wb, 0, none⟩) xl).trans x0) (Nat.lt_of_lt_of_le xl (HBW.out o).size)
  have HC := hide1 hcw
  clear hcw HD
  go_enter Tryz.func22, Tryz.ntmps22
  go_wp2_with fail
  refine (HC.out _).mono ?_
  rintro e w2 ⟨⟨r, rfl, hr⟩, hb2⟩
  go_wp2_with fail
  go_ret
  exact ⟨⟨r, rfl, hr⟩, wpost_more hi.out HO.out.1 HO.out.2.1 ((HBW.out _).trans (hb2.mono (HBW.out _).size))⟩
end Go.Proofs.YthfofjkfbhahoaaGreatDoor
end
section
namespace Go.Proofs.YthfofjkfbhahoaaGreatDoor
open Go.RowKit
set_option linter.unusedSimpArgs false
structure Lx (w : World) (b o : Nat) (x : LOp) : Prop where
  c0 : w.cell? ⟨b, o, none⟩ = some (.int .i64 x.k)
  c1 : w.cell? ⟨b, o + 1, none⟩ = some (.int .i64 x.a)
  c2 : w.cell? ⟨b, o + 2, none⟩ = some (.int .i64 x.b)
  c3 : w.cell? ⟨b, o + 3, none⟩ = some (.int .i64 x.c)
  c4 : w.cell? ⟨b, o + 4, none⟩ = some (.string x.s)
def LpsAt (w : World) (p : Option Addr) (L : List LOp) : Prop := L = [] ∨ ∃ b o, p = some ⟨b, o, none⟩ ∧ b < w.heap.size ∧ ∀ j (h : j < L.length), Lx w b (o + j * 5) L[j]
theorem Lx.below {w w' : World} {b o n : Nat} {x : LOp} (h : Lx w b o x) (hb : Below n w w') (hn : b < n) : Lx w' b o x :=
  ⟨(hb.cell (p := ⟨b, o, none⟩) hn).trans h.c0, (hb.cell (p := ⟨b, o + 1, none⟩) hn).trans h.c1, (hb.cell (p := ⟨b, o + 2, none⟩) hn).trans h.c2, (hb.cell (p := ⟨b, o + 3, none⟩) hn).trans h.c3, (hb.cell (p := ⟨b, o + 4, none⟩) hn).trans h.c4⟩
theorem LpsAt.below {w w' : World} {p : Option Addr} {L : List LOp} (h : LpsAt w p L) (hb : Below w.heap.size w w') : LpsAt w' p L := by
  rcases h with h | ⟨b, o, rfl, hl, h⟩
  · exact .inl h
  · exact .inr ⟨b, o, rfl, Nat.lt_of_lt_of_le hl hb.size, fun j hj => (h j hj).below hb hl⟩
def ABool (e : Ending) : Prop := ∃ r, e = .returned (.bool r)
set_option maxHeartbeats 1000000 in
theorem l_small (p : Option Addr) (cap : Nat) (L : List LOp) (hL : L.length ≤ 1125899906842624) (hok : Hid (∀ x ∈ L, LOk x)) (w : World) (hw : Hid (LpsAt w p L)) :
    Calls Tryz.prog 11 #[.slice p L.length cap] w fun e w' => ABool e ∧ w' = w := by
  by_cases hbig : 1073741824 < L.length
  · have hb' : decide (1073741824 < (L.length : Int)) = true := by simp; omega
    go_enter Tryz.func11, Tryz.ntmps11
    go_wp2
    go_ret
    exact ⟨⟨_, rfl⟩, rfl⟩
  · have hb' : decide (1073741824 < (L.length : Int)) = false := by simp; omega
    go_enter Tryz.func11, Tryz.ntmps11
    go_wp2
    go_loop [3, 4] (fun c d => ∃ n i : Nat, n ≤ 1073741824 ∧ i ≤ L.length ∧ c = .int .i64 n ∧ d = .int .i64 i) (fun _ d => L.length - (intOf d).toNat)
    case atStart => exact ⟨L.length, 0, by omega, by omega, rfl, rfl⟩
    case round =>
      obtain ⟨n, i, hn, hi, rfl, rfl⟩ := hrel
      by_cases hlt : i < L.length
      · rcases hw.out with h0 | ⟨b, o, rfl, hbl, hkx⟩
        · rw [h0] at hlt; simp at hlt
        have c4 := (hkx i hlt).c4
        have hs := (hok.out L[i] (List.getElem_mem hlt)).s1
        obtain ⟨S, hS⟩ : ∃ S, S = L[i].s := ⟨_, rfl⟩
        rw [← hS] at c4 hs
        clear hS hkx
        by_cases hov : 1073741824 < n + S.size
        · have ho1 : decide (1073741824 < (n : Int) + (S.size : Int)) = true := by simp; omega
          go_wp2
          go_ret
          exact ⟨⟨_, rfl⟩, rfl⟩
        · have ho1 : decide (1073741824 < (n : Int) + (S.size : Int)) = false := by simp; omega
          go_wp2
          go_round
          case rel => exact ⟨n + S.size, i + 1, by omega, by omega, by go_num, by go_num⟩
          case measure => simp [intOf]; omega
      · have hlt' : decide ((i : Int) < (L.length : Int)) = false := by simp; omega
        go_wp2
        go_ret
        exact ⟨⟨_, rfl⟩, rfl⟩
def worC : Obj := .cells #[.slice none 0 0, .slice none 0 0, .int .i64 0, .int .i64 0, .int .i64 0, .int .i64 0, .int .i64 0, .int .i64 0] 55
theorem Wx.new (w : World) : Wx (w.alloc worC) w.heap.size ⟨0, 0, 0, 0, 0, 0⟩ := by
  unfold worC
  refine ⟨?_, ?_, ?_, ?_, ?_, ?_, ?_, ?_, ?_, ?_⟩ <;> simp
def WHas (w : World) (b : Nat) : Prop := ∃ i, Wx w b i ∧ i.rd ≤ 9223372036854775807 ∧ i.rs1 ≤ 9223372036854775807
set_option maxHeartbeats 4000000 in
theorem l_UpTo (p : Option Addr) (cap : Nat) (L : List LOp) (hL : L.length ≤ 1125899906842624) (hok : Hid (∀ x ∈ L, LOk x)) (held : Int) (hh : Hid (held = 131072 ∨ held = 524288 ∨ held = 5242880 ∨ held = 2097152)) (w : World) (hw : Hid (LpsAt w p L)) (ht : Hid (Tb w)) :
    Calls Tryz.prog 13 #[.slice p L.length cap, .int .i64 held] w fun e w' => e = .returned (.int .i64 (-1)) ∧ Below w.heap.size w w' := by
  have HB0 : Hid (Below w.heap.size w (w.alloc worC)) := (Below.refl _ _).alloc (Nat.le_refl _) _
  have HX0 : Hid (WHas (w.alloc worC) w.heap.size) := ⟨_, Wx.new w, by show (0 : Int) ≤ _; decide, by show (0 : Int) ≤ _; decide⟩
  unfold worC at HB0 HX0
  go_enter Tryz.func13, Tryz.ntmps13
  go_wp2_with fail
  go_loopw [6] (fun d wr => ∃ i : Nat, i ≤ L.length ∧ d = .int .i64 i ∧ Hid (Below w.heap.size w wr) ∧ Hid (WHas wr w.heap.size)) (fun d _ => L.length - (intOf d).toNat)
  case atStart => exact ⟨0, by omega, rfl, HB0, HX0⟩
  case round =>
    obtain ⟨n, hn, rfl, hB, hX⟩ := hrel
    clear HB0 HX0
    by_cases hlt : n < L.length
    · have hops := hide1 (hw.out.below hB.out)
      have htb := hide1 (ht.out.more hB.out)
      rcases hops.out with h0 | ⟨b, o, rfl, hbl, hkx⟩
      · rw [h0] at hlt; simp at hlt
      have hkx := hkx n hlt
      have hxo := hok.out L[n] (List.getElem_mem hlt)
      obtain ⟨x, hx⟩ : ∃ x, x = L[n] := ⟨_, rfl⟩
      rw [← hx] at hkx hxo
      clear hx
      obtain ⟨j, hj, hj0, hj1⟩ := hX.out
      have hst := l_step w.heap.size x hxo wr htb j (hide1 hj) hj0 hj1
      obtain ⟨xk, xa, xb, xc, xs⟩ := x
      unfold LOp.v at hst
      simp only at hst
      have HST := hide1 hst
      have c0 := hkx.c0
      have c1 := hkx.c1
      have c2 := hkx.c2
      have c3 := hkx.c3
      have c4 := hkx.c4
      simp only at c0 c1 c2 c3 c4
      clear hst hkx hxo hj hj0 hj1 hX hops htb
      go_wp2_with fail
      refine HST.out.mono ?_
      rintro e w2 ⟨⟨r, rfl, hr⟩, hp2⟩
      have HP2 := hide1 hp2
      have HB2 := hide1 (hB.out.trans hp2.1)
      have HX2 : Hid (WHas w2 w.heap.size) := hp2.2
      clear c0 c1 c2 c3 c4 HST hp2 HP2
      cases r
      · have hk1 : xk = 1 := Classical.byContradiction fun h => by have := hr.out h; cases this
        subst hk1
        rcases hh.out with rfl | rfl | rfl | rfl
        all_goals
          go_wp2_with fail
          go_roundw
          case rel => exact ⟨n + 1, by omega, by go_num, HB2, HX2⟩
          case measure => simp [intOf]; omega
      · go_wp2_with fail
        go_roundw
        case rel => exact ⟨n + 1, by omega, by go_num, HB2, HX2⟩
        case measure => simp [intOf]; omega
    · have hlt' : decide ((n : Int) < (L.length : Int)) = false := by simp; omega
      go_wp2_with fail
      go_ret
      exact ⟨rfl, hB.out⟩
set_option maxHeartbeats 2000000 in
theorem l_plays (p : Option Addr) (cap : Nat) (L : List LOp) (hL : L.length ≤ 1125899906842624) (hok : Hid (∀ x ∈ L, LOk x)) (held : Int) (hh : held = 131072 ∨ held = 524288 ∨ held = 5242880 ∨ held = 2097152) (w : World) (hw : Hid (LpsAt w p L)) (ht : Hid (Tb w)) :
    Calls Tryz.prog 9 #[.slice p L.length cap, .int .i64 held] w fun e w' => e = .returned (.bool true) ∧ Below w.heap.size w w' := by
  have HSM := hide1 (l_small p cap L hL hok w hw)
  have HU := hide1 (l_UpTo p cap L hL hok held (hide1 hh) w hw ht)
  rcases hh with rfl | rfl | rfl | rfl
  all_goals
    go_enter Tryz.func9, Tryz.ntmps9
    go_wp2_with fail
    refine HSM.out.mono ?_
    rintro e w1 ⟨⟨r, rfl⟩, rfl⟩
    cases r
    · go_wp2_with fail
      go_ret
      exact ⟨rfl, Below.refl _ _⟩
    · go_wp2_with fail
      refine HU.out.mono ?_
      rintro e w2 ⟨rfl, hb2⟩
      go_wp2_with fail
      go_ret
      exact ⟨rfl, hb2⟩
set_option maxHeartbeats 1000000 in
theorem l_Decodes (p : Option Addr) (cap : Nat) (L : List LOp) (hL : L.length ≤ 1125899906842624) (hok : Hid (∀ x ∈ L, LOk x)) (w : World) (hw : Hid (LpsAt w p L)) (ht : Hid (Tb w)) :
    Calls Tryz.prog 3 #[.slice p L.length cap] w fun e w' => e = .returned (.bool true) ∧ Below w.heap.size w w' := by
  have HP := hide1 (l_plays p cap L hL hok 131072 (.inl rfl) w hw ht)
  go_enter Tryz.func3, Tryz.ntmps3
  go_wp2_with fail
  refine HP.out.mono ?_
  rintro e w1 ⟨rfl, hb1⟩
  go_wp2_with fail
  go_ret
  exact ⟨rfl, hb1⟩
set_option maxHeartbeats 1000000 in
theorem l_Encodes (p : Option Addr) (cap : Nat) (L : List LOp) (hL : L.length ≤ 1125899906842624) (hok : Hid (∀ x ∈ L, LOk x)) (w : World) (hw : Hid (LpsAt w p L)) (ht : Hid (Tb w)) :
    Calls Tryz.prog 4 #[.slice p L.length cap] w fun e w' => e = .returned (.bool true) ∧ Below w.heap.size w w' := by
  have HP := hide1 (l_plays p cap L hL hok 524288 (.inr (.inl rfl)) w hw ht)
  go_enter Tryz.func4, Tryz.ntmps4
  go_wp2_with fail
  refine HP.out.mono ?_
  rintro e w1 ⟨rfl, hb1⟩
  go_wp2_with fail
  go_ret
  exact ⟨rfl, hb1⟩
set_option maxHeartbeats 1000000 in
theorem l_Images (p : Option Addr) (cap : Nat) (L : List LOp) (hL : L.length ≤ 1125899906842624) (hok : Hid (∀ x ∈ L, LOk x)) (w : World) (hw : Hid (LpsAt w p L)) (ht : Hid (Tb w)) :
    Calls Tryz.prog 5 #[.slice p L.length cap] w fun e w' => e = .returned (.bool true) ∧ Below w.heap.size w w' := by
  have HP := hide1 (l_plays p cap L hL hok 5242880 (.inr (.inr (.inl rfl))) w hw ht)
  go_enter Tryz.func5, Tryz.ntmps5
  go_wp2_with fail
  refine HP.out.mono ?_
  rintro e w1 ⟨rfl, hb1⟩
  go_wp2_with fail
  go_ret
  exact ⟨rfl, hb1⟩
set_option maxHeartbeats 1000000 in
theorem l_Texts (p : Option Addr) (cap : Nat) (L : List LOp) (hL : L.length ≤ 1125899906842624) (hok : Hid (∀ x ∈ L, LOk x)) (w : World) (hw : Hid (LpsAt w p L)) (ht : Hid (Tb w)) :
    Calls Tryz.prog 6 #[.slice p L.length cap] w fun e w' => e = .returned (.bool true) ∧ Below w.heap.size w w' := by
  have HP := hide1 (l_plays p cap L hL hok 2097152 (.inr (.inr (.inr rfl))) w hw ht)
  go_enter Tryz.func6, Tryz.ntmps6
  go_wp2_with fail
  refine HP.out.mono ?_
  rintro e w1 ⟨rfl, hb1⟩
  go_wp2_with fail
  go_ret
  exact ⟨rfl, hb1⟩
end Go.Proofs.YthfofjkfbhahoaaGreatDoor
end
