import Derived.Test.YtmlgonbhoknoiabGreatDoorXBB
set_option maxHeartbeats 8000000
set_option linter.all false
namespace Go.Proofs.YtmlgonbhoknoiabGreatDoor
open Go.RowKit Go.Proofs.Tryz
section
attribute [local go_sem ↓] Go.wp_at_zero Go.wp_at_succ
structure Bo (w : World) (b n : Nat) : Prop where
 cell : ∀ j, j < n -> ∃ r : Bool, w.cell? ⟨b, j, none⟩ = some (.bool r)
 fro : ∀ o, w.frozen? ⟨b, o, none⟩ = false
 lt : b < w.heap.size
theorem Bo.more {w w' : World} {b n : Nat} {F : List Nat} (h : Bo w b n) (hk : Kept F w w') (hn : ¬ b ∈ F) : Bo w' b n := ⟨fun j hj => by obtain ⟨r, hr⟩ := h.cell j hj; exact ⟨r, (hk.cell (p := ⟨b, j, none⟩) h.lt hn).trans hr⟩, fun o => (hk.frozen (p := ⟨b, o, none⟩) h.lt hn).trans (h.fro o), Nat.lt_of_lt_of_le h.lt hk.size⟩
theorem Bo.set {w : World} {b n : Nat} (h : Bo w b n) (c k : Nat) (r : Bool) : Bo (w.setCell ⟨c, k, none⟩ (.bool r)) b n := by
 refine ⟨fun j hj => ?_, fun o => by rw [World.frozen?_setCell]; exact h.fro o, Nat.lt_of_lt_of_le h.lt ((Kept.refl [c] w).setCell (.inl (by simp)) (.bool r)).size⟩
 obtain ⟨x, hx⟩ := h.cell j hj
 by_cases e : b = c /\ j = k
 . obtain ⟨rfl, rfl⟩ := e
   exact ⟨r, World.cell?_setCell_same _ _ _ hx⟩
 . refine ⟨x, ?_⟩
   rw [World.cell?_setCell_other _ _ _ _ (by simp; omega)]
   exact hx
structure Tabs (w : World) (tb b0 b1 b2 b3 b4 n m : Nat) : Prop where
 hdr : BoxF w tb [.slice (some ⟨b0, 0, none⟩) n n, .slice (some ⟨b1, 0, none⟩) n n, .slice (some ⟨b2, 0, none⟩) n n, .slice (some ⟨b3, 0, none⟩) m m, .slice (some ⟨b4, 0, none⟩) n n]
 s0 : Bo w b0 n
 s1 : Bo w b1 n
 s2 : Bo w b2 n
 s3 : Bo w b3 m
 s4 : Bo w b4 n
 ne : ¬ tb ∈ [b0, b1, b2, b3, b4]
 nd : ¬ b1 = b2
theorem Tabs.set {w : World} {tb b0 b1 b2 b3 b4 n m : Nat} (h : Tabs w tb b0 b1 b2 b3 b4 n m) (c k : Nat) (r : Bool) (hc : c ∈ [b0, b1, b2, b3, b4]) : Tabs (w.setCell ⟨c, k, none⟩ (.bool r)) tb b0 b1 b2 b3 b4 n m :=
 ⟨h.hdr.more ((Kept.refl [c] w).setCell (.inl (by simp)) (.bool r)) (by simp; rintro rfl; exact h.ne hc), h.s0.set c k r, h.s1.set c k r, h.s2.set c k r, h.s3.set c k r, h.s4.set c k r, h.ne, h.nd⟩
theorem Tabs.kept {w w' : World} {tb b0 b1 b2 b3 b4 n m : Nat} (h : Tabs w tb b0 b1 b2 b3 b4 n m) (hk : Kept [] w w') : Tabs w' tb b0 b1 b2 b3 b4 n m :=
 ⟨h.hdr.kept hk, h.s0.more hk (by simp), h.s1.more hk (by simp), h.s2.more hk (by simp), h.s3.more hk (by simp), h.s4.more hk (by simp), h.ne, h.nd⟩
set_option maxRecDepth 100000 in
theorem k_cover (tb b0 b1 b2 b3 b4 n m : Nat) (hn : n <= 100) (c : Nat) (hc : c <= 1024) (ppn e : Int) (p0 : 0 <= ppn) (p1 : ppn <= 4294967296) (u s : Bool) (w : World) (hw : Hid (Tabs w tb b0 b1 b2 b3 b4 n m)) :
 Calls prog 150 #[.pointer (some ⟨tb, 0, none⟩), .int .i64 ppn, .int .i64 c, .int .i64 e, .bool u, .bool s] w fun o w' => o = .returned (.tuple #[]) /\ Tabs w' tb b0 b1 b2 b3 b4 n m /\ Kept [b0, b1, b2, b3, b4] w w' := by
 have K0 := hide1 (Kept.refl [b0, b1, b2, b3, b4] w)
 go_enter func150, ntmps150
 go_upto_region 2 with fail
 all_goals
  go_wp2_with fail
  go_loopw [14] (fun x wr => ∃ i : Nat, i <= c /\ x = .int .i64 i /\ Hid (Tabs wr tb b0 b1 b2 b3 b4 n m) /\ Hid (Kept [b0, b1, b2, b3, b4] w wr)) (fun x _ => c - (intOf x).toNat)
  case atStart => exact ⟨0, by omega, rfl, hw, K0⟩
  case round =>
   obtain ⟨i, hi, rfl, hb, hk⟩ := hrel
   clear hw K0
   by_cases hlt : i < c
   . have hlt' : decide ((i : Int) < (c : Int)) = true := by simp; omega
     by_cases h0 : 0 <= ppn + i - 524288
     . obtain ⟨p, hp⟩ : ∃ p : Nat, ppn + i - 524288 = p := ⟨(ppn + i - 524288).toNat, by omega⟩
       by_cases h1 : p < n
       . have h1' : decide ((p : Int) < (n : Int)) = true := by simp; omega
         have hz := hb.out.hdr.lt
         have c1 := hb.out.hdr.cell 1 _ rfl
         have c2 := hb.out.hdr.cell 2 _ rfl
         obtain ⟨r1, e1⟩ := hb.out.s1.cell p h1
         obtain ⟨r2, e2⟩ := hb.out.s2.cell p h1
         have f1 := hb.out.s1.fro p
         have f2 := hb.out.s2.fro p
         have n1 : ¬ tb = b1 := fun h => hb.out.ne (by simp [h])
         have n2 : ¬ b1 = tb := fun h => n1 h.symm
         have n3 := hb.out.nd
         have n4 : ¬ b2 = b1 := fun h => n3 h.symm
         go_wp2_with fail
         all_goals
          go_roundw
          case rel => exact ⟨i + 1, by omega, by go_num, by first | exact hb | exact hide1 (hb.out.set b1 p true (by simp)) | exact hide1 ((hb.out.set b1 p true (by simp)).set b2 p true (by simp)), by first | exact hk | exact hide1 (hk.out.setCell (.inl (by simp)) _) | exact hide1 ((hk.out.setCell (.inl (by simp)) _).setCell (.inl (by simp)) _)⟩
          case measure => exact zq190
       . have h1' : decide ((p : Int) < (n : Int)) = false := by simp; omega
         have hz := hb.out.hdr.lt
         have c1 := hb.out.hdr.cell 1 _ rfl
         exact zq410
     . have h0' : decide (0 <= ppn + i - 524288) = false := by simp; omega
       exact zq410
   . have hlt' : decide ((i : Int) < (c : Int)) = false := by simp; omega
     exact zq411
set_option maxRecDepth 100000 in
theorem k_readL (tb b0 b1 b2 b3 b4 n m p : Nat) (s : ByteArray) (hs : s.size <= 65536) (hn : Hid (n = (s.size + 4095) / 4096)) (hm : Hid (m = s.size / 4 + 1)) (hp : p < n) (us su : Bool) (w : World) (hw : Hid (Tabs w tb b0 b1 b2 b3 b4 n m)) :
 Calls prog 112 #[.pointer (some ⟨tb, 0, none⟩), .string s, .int .i64 p, .bool false, .bool us, .bool su] w fun o w' => o = .returned (.tuple #[]) /\ Tabs w' tb b0 b1 b2 b3 b4 n m /\ Kept [b0, b1, b2, b3, b4] w w' := by
 have hn20 : n <= 20 := by have := hn.out; omega
 have z0 := hw.out.hdr.lt
 have c0 := hw.out.hdr.cell 0 _ rfl
 obtain ⟨r0, e0⟩ := hw.out.s0.cell p hp
 have f0 := hw.out.s0.fro p
 have W0 := hide1 (hw.out.set b0 p true (by simp))
 have K0 : Hid (Kept [b0, b1, b2, b3, b4] w (w.setCell ⟨b0, p, none⟩ (.bool true))) := hide1 ((Kept.refl _ _).setCell (.inl (by simp)) _)
 clear hw
 go_enter func112, ntmps112
 go_wp2_with fail
 go_loopw [12] (fun x wr => ∃ i : Nat, i <= 1024 /\ x = .int .i64 i /\ Hid (Tabs wr tb b0 b1 b2 b3 b4 n m) /\ Hid (Kept [b0, b1, b2, b3, b4] w wr)) (fun x _ => 1024 - (intOf x).toNat)
 case atStart => exact ⟨0, by omega, rfl, W0, K0⟩
 case round =>
  obtain ⟨i, hi, rfl, hb, hk⟩ := hrel
  clear W0 K0 z0 c0 e0 f0
  by_cases hlt : i < 1024
  . have hlt' : decide ((i : Int) < 1024) = true := by simp; omega
    obtain ⟨A, hA⟩ : ∃ A : Nat, (p : Int) * 4096 + 4 * (i : Int) = A := ⟨p * 4096 + 4 * i, by omega⟩
    by_cases hs4 : A + 4 <= s.size
    . have hs4' : decide ((A : Int) + 4 > (s.size : Int)) = false := by simp; omega
      have hs4'' : decide ((s.size : Int) < (A : Int) + 4) = false := by simp; omega
      have LE := hide1 (k_leB s A hs4 (by omega) wr)
      go_wp2_with fail
      refine LE.out.mono ?_
      rintro o w1 ⟨⟨v, hv, rfl⟩, hk1⟩
      have B1 := hide1 (hb.out.kept hk1)
      have K1 : Hid (Kept [b0, b1, b2, b3, b4] w w1) := hide1 (hk.out.trans (hk1.mono (by simp)))
      clear hb hk hk1 LE
      obtain ⟨P, hP⟩ : ∃ P : Nat, (v : Int) / 1024 = P := ⟨v / 1024, by omega⟩
      have hP1 : P <= 4294967296 := by omega
      have z1 := B1.out.hdr.lt
      have c3 := B1.out.hdr.cell 3 _ rfl
      obtain ⟨L, l2, hLm⟩ : ∃ L : Nat, Int.tdiv (A : Int) 4 = L /\ L < m := ⟨A / 4, by rw [Int.tdiv_eq_ediv_of_nonneg (by omega)]; omega, by have := hm.out; omega⟩
      have l3 : L <= 70000 := by have := hm.out; omega
      obtain ⟨r3, e3⟩ := B1.out.s3.cell L hLm
      have f3 := B1.out.s3.fro L
      have B2 := hide1 (B1.out.set b3 L true (by simp))
      have K2 : Hid (Kept [b0, b1, b2, b3, b4] w (w1.setCell ⟨b3, L, none⟩ (.bool true))) := zq144
      have CV := hide1 (k_cover tb b0 b1 b2 b3 b4 n m (by omega) 1 (by omega) P (v : Int) (by omega) (by omega) us su _ B2)
      rcases beqC (bits .and .i64 (v : Int) 1) 1 with ⟨g1, g1'⟩ | ⟨g1, g1'⟩
      . rcases beqC (bits .and .i64 (v : Int) 10) 0 with ⟨g2, g2'⟩ | ⟨g2, g2'⟩
        . exact zq412
        . exact zq413
      . exact zq412
    . exact zq414
  . exact zq415
set_option maxRecDepth 100000 in
theorem k_readR (tb b0 b1 b2 b3 b4 n m p : Nat) (s : ByteArray) (hs : s.size <= 65536) (hn : Hid (n = (s.size + 4095) / 4096)) (hm : Hid (m = s.size / 4 + 1)) (hp : p < n) (us su : Bool) (w : World) (hw : Hid (Tabs w tb b0 b1 b2 b3 b4 n m)) :
 Calls prog 112 #[.pointer (some ⟨tb, 0, none⟩), .string s, .int .i64 p, .bool true, .bool us, .bool su] w fun o w' => o = .returned (.tuple #[]) /\ Tabs w' tb b0 b1 b2 b3 b4 n m /\ Kept [b0, b1, b2, b3, b4] w w' := by
 have hn20 : n <= 20 := by have := hn.out; omega
 have z0 := hw.out.hdr.lt
 have c0 := hw.out.hdr.cell 0 _ rfl
 obtain ⟨r0, e0⟩ := hw.out.s0.cell p hp
 have f0 := hw.out.s0.fro p
 have W0 := hide1 (hw.out.set b0 p true (by simp))
 have K0 : Hid (Kept [b0, b1, b2, b3, b4] w (w.setCell ⟨b0, p, none⟩ (.bool true))) := hide1 ((Kept.refl _ _).setCell (.inl (by simp)) _)
 clear hw
 go_enter func112, ntmps112
 go_wp2_with fail
 go_loopw [12] (fun x wr => ∃ i : Nat, i <= 1024 /\ x = .int .i64 i /\ Hid (Tabs wr tb b0 b1 b2 b3 b4 n m) /\ Hid (Kept [b0, b1, b2, b3, b4] w wr)) (fun x _ => 1024 - (intOf x).toNat)
 case atStart => exact ⟨0, by omega, rfl, W0, K0⟩
 case round =>
  obtain ⟨i, hi, rfl, hb, hk⟩ := hrel
  clear W0 K0 z0 c0 e0 f0
  by_cases hlt : i < 1024
  . have hlt' : decide ((i : Int) < 1024) = true := by simp; omega
    obtain ⟨A, hA⟩ : ∃ A : Nat, (p : Int) * 4096 + 4 * (i : Int) = A := ⟨p * 4096 + 4 * i, by omega⟩
    by_cases hs4 : A + 4 <= s.size
    . have hs4' : decide ((A : Int) + 4 > (s.size : Int)) = false := by simp; omega
      have hs4'' : decide ((s.size : Int) < (A : Int) + 4) = false := by simp; omega
      have LE := hide1 (k_leB s A hs4 (by omega) wr)
      go_wp2_with fail
      refine LE.out.mono ?_
      rintro o w1 ⟨⟨v, hv, rfl⟩, hk1⟩
      have B1 := hide1 (hb.out.kept hk1)
      have K1 : Hid (Kept [b0, b1, b2, b3, b4] w w1) := hide1 (hk.out.trans (hk1.mono (by simp)))
      clear hb hk hk1 LE
      obtain ⟨P, hP⟩ : ∃ P : Nat, (v : Int) / 1024 = P := ⟨v / 1024, by omega⟩
      have hP1 : P <= 4294967296 := by omega
      have z1 := B1.out.hdr.lt
      have c3 := B1.out.hdr.cell 3 _ rfl
      obtain ⟨L, l2, hLm⟩ : ∃ L : Nat, Int.tdiv (A : Int) 4 = L /\ L < m := ⟨A / 4, by rw [Int.tdiv_eq_ediv_of_nonneg (by omega)]; omega, by have := hm.out; omega⟩
      have l3 : L <= 70000 := by have := hm.out; omega
      obtain ⟨r3, e3⟩ := B1.out.s3.cell L hLm
      have f3 := B1.out.s3.fro L
      have B2 := hide1 (B1.out.set b3 L true (by simp))
      have K2 : Hid (Kept [b0, b1, b2, b3, b4] w (w1.setCell ⟨b3, L, none⟩ (.bool true))) := zq144
      have CV := hide1 (k_cover tb b0 b1 b2 b3 b4 n m (by omega) 1024 (by omega) P (v : Int) (by omega) (by omega) us su _ B2)
      rcases beqC (bits .and .i64 (v : Int) 1) 1 with ⟨g1, g1'⟩ | ⟨g1, g1'⟩
      . rcases beqC (bits .and .i64 (v : Int) 10) 0 with ⟨g2, g2'⟩ | ⟨g2, g2'⟩
        . clear CV B2 K2
          by_cases h0 : 0 <= (P : Int) - 524288
          . obtain ⟨q, hq⟩ : ∃ q : Nat, (P : Int) - 524288 = q := ⟨P - 524288, by omega⟩
            by_cases h1 : q < n
            . have h1' : decide ((q : Int) < (n : Int)) = true := by simp; omega
              have c4 := B1.out.hdr.cell 4 _ rfl
              have z4 := B1.out.hdr.lt
              obtain ⟨r4, e4⟩ := B1.out.s4.cell q h1
              have f4 := B1.out.s4.fro q
              cases r4
              . have B5 := hide1 (B1.out.set b4 q true (by simp))
                have K5 : Hid (Kept [b0, b1, b2, b3, b4] w (w1.setCell ⟨b4, q, none⟩ (.bool true))) := zq144
                have RD := hide1 (k_readL tb b0 b1 b2 b3 b4 n m q s hs hn hm h1 us su _ B5)
                have n1 : ¬ tb = b4 := fun h => B1.out.ne (by simp [h])
                have n2 : ¬ b4 = tb := fun h => n1 h.symm
                clear B5 B1 K1
                go_wp2_with fail
                refine RD.out.mono ?_
                rintro o w5 ⟨rfl, hb5, hk5⟩
                have B6 := hide1 hb5
                have K6 := hide1 (K5.out.trans hk5)
                clear hb5 hk5 K5 RD
                go_wp2_with fail
                go_roundw
                case rel => exact ⟨i + 1, by omega, by go_num, B6, K6⟩
                case measure => exact zq190
              . exact zq416
            . have h1' : decide ((q : Int) < (n : Int)) = false := by simp; omega
              have c4 := B1.out.hdr.cell 4 _ rfl
              have z4 := B1.out.hdr.lt
              exact zq416
          . have h0' : decide (0 <= (P : Int) - 524288) = false := by simp; omega
            exact zq416
        . exact zq413
      . exact zq412
    . exact zq414
  . exact zq415
end
end Go.Proofs.YtmlgonbhoknoiabGreatDoor
