import Derived.Test.YthfofjkfbhahoaaGreatDoorXY
section
namespace Go.Proofs.YthfofjkfbhahoaaGreatDoor
open Go.RowKit
set_option linter.unusedSimpArgs false
def putI (w : World) (b : Nat) (N : ByteArray) (i : Ins) (G : ByteArray) : World :=
  (((((((((w.setCell ⟨b, 0, none⟩ (.string N)).setCell ⟨b, 1, none⟩ (.int .i64 i.op)).setCell ⟨b, 2, none⟩ (.int .i64 i.op)).setCell ⟨b, 3, none⟩ (.int .i64 i.rd)).setCell ⟨b, 4, none⟩ (.int .i64 i.rs1)).setCell ⟨b, 5, none⟩ (.int .i64 i.rs2)).setCell ⟨b, 6, none⟩ (.int .i64 i.im)).setCell ⟨b, 7, none⟩ (.int .i64 i.ln)).setCell ⟨b, 8, none⟩ (.string G)).setCell ⟨b, 9, none⟩ (.int .i64 i.ln)
theorem Ex.put {w : World} {b : Nat} {N G N' G' : ByteArray} {i i' : Ins} (h : Ex w b N i G) : Ex (putI w b N' i' G') b N' i' G' := by
  have h0 := h.c0
  have h1 := h.c1
  have h2 := h.c2
  have h3 := h.c3
  have h4 := h.c4
  have h5 := h.c5
  have h6 := h.c6
  have h7 := h.c7
  have h8 := h.c8
  have h9 := h.c9
  have hf := h.fro
  have hl := h.lt
  unfold putI
  refine ⟨?_, ?_, ?_, ?_, ?_, ?_, ?_, ?_, ?_, ?_, ?_, ?_⟩ <;> simp [go_sem, h0, h1, h2, h3, h4, h5, h6, h7, h8, h9, hf, hl]
theorem below_putI {n : Nat} {w w' : World} (h : Below n w w') {b : Nat} (hn : n ≤ b) (N : ByteArray) (i : Ins) (G : ByteArray) : Below n w (putI w' b N i G) := by
  unfold putI
  repeat (first | with_reducible exact h | (with_reducible refine Below.setCell ?_ hn _))
theorem Ex.put_ne {w : World} {b c : Nat} {N G N' G' : ByteArray} {i i' : Ins} (h : Ex w b N i G) (hbc : b ≠ c) : Ex (putI w c N' i' G') b N i G := by
  have h0 := h.c0
  have h1 := h.c1
  have h2 := h.c2
  have h3 := h.c3
  have h4 := h.c4
  have h5 := h.c5
  have h6 := h.c6
  have h7 := h.c7
  have h8 := h.c8
  have h9 := h.c9
  have hf := h.fro
  have hl := h.lt
  have hcb : ¬ c = b := fun e => hbc e.symm
  unfold putI
  refine ⟨?_, ?_, ?_, ?_, ?_, ?_, ?_, ?_, ?_, ?_, ?_, ?_⟩ <;> simp [go_sem, h0, h1, h2, h3, h4, h5, h6, h7, h8, h9, hf, hl, hbc, hcb]
end Go.Proofs.YthfofjkfbhahoaaGreatDoor
end
section
namespace Go.Proofs.YthfofjkfbhahoaaGreatDoor
open Go.RowKit
set_option linter.unusedSimpArgs false
def OpsPost (N : ByteArray) (O : Option (Ins × List UInt8)) (e : Ending) : Prop := ∃ (j : Ins) (G' : ByteArray), e = .returned (.tuple #[itA N j G', .bool O.isSome]) ∧ Hid (∀ x y, O = some (x, y) → j = x ∧ G' = ⟨y.toArray⟩)
theorem opd_im (i : Ins) (g : List UInt8) (c : Nat) (T : List (List UInt8)) (hc : c = 100 ∨ c = 115 ∨ c = 116) (x : Ins × List UInt8) (h : Byt.opdP i g c T = some x) : x.1.im = i.im := by
  unfold Byt.opdP at h
  rw [if_pos hc] at h
  unfold Byt.opdR at h
  cases hr : Byt.reg (T[0]?.getD []) with
  | none => rw [hr] at h; simp at h
  | some r =>
    rw [hr] at h
    simp only [Option.map_some, Option.some.injEq] at h
    rw [← h]
    show (if c = 100 then _ else _ : Ins).im = _
    repeat (first | rfl | split)
theorem shapes_j : ((List.range 73).all fun n => (List.range 8).all fun k => (List.range k).all fun k' => decide (((Nm.shape n).data.toList.map UInt8.toNat)[k]? = some 106 → ((Nm.shape n).data.toList.map UInt8.toNat)[k']? = some 100 ∨ ((Nm.shape n).data.toList.map UInt8.toNat)[k']? = some 115 ∨ ((Nm.shape n).data.toList.map UInt8.toNat)[k']? = some 116)) = true := by decide +kernel
def Jok (S : ByteArray) : Prop := ∀ k k', k < 8 → k' < k → (S.data.toList.map UInt8.toNat)[k]? = some 106 → (S.data.toList.map UInt8.toNat)[k']? = some 100 ∨ (S.data.toList.map UInt8.toNat)[k']? = some 115 ∨ (S.data.toList.map UInt8.toNat)[k']? = some 116
theorem shape_j (n : Nat) (h : n ≤ 72) : Jok (Nm.shape n) := by
  intro k k' hk hk' hh
  have h1 := List.all_eq_true.1 shapes_j n (by simp; omega)
  have h2 := List.all_eq_true.1 h1 k (by simp; omega)
  have h3 := List.all_eq_true.1 h2 k' (by simp; omega)
  exact of_decide_eq_true h3 hh
theorem sh_get (S : ByteArray) (K : Nat) (h : K < S.size) : (S.data.toList.map UInt8.toNat)[K]? = some S[K].toNat := by
  have hl : K < S.data.toList.length := by rw [Array.length_toList]; exact h
  rw [List.getElem?_map, List.getElem?_eq_getElem hl]; rfl
/-- as long as a j is still to come, the immediate is 0 -/
def Jz (S : ByteArray) (K : Nat) (i : Ins) : Prop := ∀ k, K ≤ k → k < 8 → (S.data.toList.map UInt8.toNat)[k]? = some 106 → i.im = 0
theorem Jz.next {S : ByteArray} {K : Nat} {i x : Ins} {g y : List UInt8} {c : Nat} {T : List (List UInt8)} (hJ : Jok S) (h : Jz S K i) (hK : K < S.size) (hc : c = S[K].toNat) (ho : Byt.opdP i g c T = some (x, y)) : Jz S (K + 1) x := by
  intro k hk h8 hh
  have h1 := hJ k K h8 (by omega) hh
  rw [sh_get S K hK, ← hc] at h1
  simp only [Option.some.injEq] at h1
  have h2 := opd_im i g c T h1 (x, y) ho
  rw [h2]
  exact h k (by omega) h8 hh
theorem ops_noT {cs : List Nat} {c : Nat} {K : Nat} {i : Ins} {g : List UInt8} {L : List (List UInt8)} (hk : 0 < K) (hc : ¬ L[0]?.getD [] = [44]) : Byt.opsP (c :: cs) (decide (0 < K)) i g L = none := by
  rw [decide_eq_true hk]; simp only [Byt.opsP]; rw [if_pos ⟨trivial, hc⟩]
theorem ops_yesT {cs : List Nat} {c : Nat} {K : Nat} {i : Ins} {g : List UInt8} {L : List (List UInt8)} (hc : 0 < K → L[0]?.getD [] = [44]) : Byt.opsP (c :: cs) (decide (0 < K)) i g L = match Byt.opdP i g c (L.drop (if 0 < K then 1 else 0)) with | none => none | some (x, y) => Byt.opsP cs true x y ((L.drop (if 0 < K then 1 else 0)).drop (Byt.cnt c)) := by
  by_cases hk : 0 < K
  · have := hc hk
    rw [decide_eq_true hk, if_pos hk]; simp only [Byt.opsP, if_true]; rw [if_neg (fun h => h.2 this), List.drop_drop]; rfl
  · rw [decide_eq_false hk, if_neg hk]; simp only [Byt.opsP, Bool.false_eq_true, false_and, if_false]; rw [List.drop_drop, Nat.zero_add]; rfl
theorem xendA {w wc w1 : World} {N N1 G G1 : ByteArray} {i I1 : Ins} (hx : Ex wc w.heap.size N i G) (hy : Ex wc (w.heap.size + 1) ⟨#[]⟩ ⟨0, 0, 0, 0, 0, 0⟩ ⟨#[]⟩) (hb : Below w.heap.size w wc) (hb2 : Below wc.heap.size wc.drew w1) :
    Hid (Ex (w1.alloc (itC N1 I1 G1)) w1.heap.size N1 I1 G1 ∧ Ex (w1.alloc (itC N1 I1 G1)) w.heap.size N i G ∧ Ex (w1.alloc (itC N1 I1 G1)) (w.heap.size + 1) ⟨#[]⟩ ⟨0, 0, 0, 0, 0, 0⟩ ⟨#[]⟩ ∧ Below w.heap.size w (w1.alloc (itC N1 I1 G1)) ∧ w.heap.size + 2 ≤ w1.heap.size) := by
  have h3 : Below wc.heap.size wc w1 := (Below.refl _ _).drew.trans hb2
  have hl := hy.lt
  have hs := h3.size
  exact ⟨Ex.new _ _ _ _, (hx.more h3 hx.lt).alloc _, (hy.more h3 hy.lt).alloc _, (hb.trans (h3.mono hb.size)).alloc (by omega) _, by omega⟩
theorem xendB {w wc w1 : World} {N N1 G G1 : ByteArray} {i I1 : Ins} (hx : Ex wc w.heap.size N i G) (hy : Ex wc (w.heap.size + 1) ⟨#[]⟩ ⟨0, 0, 0, 0, 0, 0⟩ ⟨#[]⟩) (hb : Below w.heap.size w wc) (h3 : Below wc.heap.size wc w1) (hz : Ex w1 wc.heap.size ⟨#[]⟩ ⟨0, 0, 0, 0, 0, 0⟩ ⟨#[]⟩) :
    Hid (Ex (putI w1 wc.heap.size N1 I1 G1) wc.heap.size N1 I1 G1 ∧ Ex (putI w1 wc.heap.size N1 I1 G1) w.heap.size N i G ∧ Ex (putI w1 wc.heap.size N1 I1 G1) (w.heap.size + 1) ⟨#[]⟩ ⟨0, 0, 0, 0, 0, 0⟩ ⟨#[]⟩ ∧ Below w.heap.size w (putI w1 wc.heap.size N1 I1 G1) ∧ w.heap.size + 2 ≤ wc.heap.size) := by
  have hl := hy.lt
  have hl2 := hx.lt
  exact ⟨hz.put, (hx.more h3 hx.lt).put_ne (by omega), (hy.more h3 hy.lt).put_ne (by omega), below_putI (hb.trans (h3.mono hb.size)) (by omega) _ _ _, by omega⟩
set_option maxHeartbeats 8000000 in
theorem u_operands (N : ByteArray) (i : Ins) (g : List UInt8) (S : ByteArray) (hlen : S.size ≤ 8) (hlet : Hid (∀ k (h : k < S.size), S[k].toNat = 100 ∨ S[k].toNat = 115 ∨ S[k].toNat = 116 ∨ S[k].toNat = 109 ∨ S[k].toNat = 106 ∨ S[k].toNat = 117 ∨ S[k].toNat = 105)) (hjok : Hid (Jok S)) (him : Hid (i.im = 0))
    (b o cap : Nat) (L : List (List UInt8)) (hL : L.length ≤ 5000) (hcap : L.length ≤ cap) (w : World) (hw : Hid (StrsAt w b o L)) (hb : b < w.heap.size) (hs : Hid (Short L)) :
    Calls Tryz.prog 173 #[itA N i ⟨g.toArray⟩, .string S, .slice (some ⟨b, o, none⟩) L.length cap] w fun e w' => OpsPost N (Byt.opsP (S.data.toList.map UInt8.toNat) false i g L) e ∧ Below w.heap.size w w' := by
  obtain ⟨T, hT⟩ : ∃ T, T = Byt.opsP (S.data.toList.map UInt8.toNat) false i g L := ⟨_, rfl⟩
  rw [← hT]
  have HT := hide1 hT
  clear hT
  obtain ⟨G, hG⟩ : ∃ G : ByteArray, G = ⟨g.toArray⟩ := ⟨_, rfl⟩
  rw [← hG]
  have B2 : Below w.heap.size w ((w.alloc (itC N i G)).alloc (itC ⟨#[]⟩ ins0 ⟨#[]⟩)) := ((Below.refl _ _).alloc (by simp) _).alloc (by simp) _
  have hX : Ex ((w.alloc (itC N i G)).alloc (itC ⟨#[]⟩ ins0 ⟨#[]⟩)) (w.heap.size + 1) ⟨#[]⟩ ins0 ⟨#[]⟩ := by
    have h := Ex.new (w.alloc (itC N i G)) ⟨#[]⟩ ins0 ⟨#[]⟩
    simpa using h
  have hY : Ex ((w.alloc (itC N i G)).alloc (itC ⟨#[]⟩ ins0 ⟨#[]⟩)) w.heap.size N i G := (Ex.new w N i G).alloc _
  have HB := hide1 B2
  have HX := hide1 hX
  have HY := hide1 hY
  have HG := hide1 hG
  unfold itC ins0 at HB HX HY
  clear B2 hX hY hG
  unfold itA
  go_enter Tryz.func173, Tryz.ntmps173
  go_wp2_with fail
  go_loopw [2, 8] (fun t k wr => ∃ (o1 cap1 K : Nat) (L1 : List (List UInt8)) (i' : Ins) (g' : List UInt8), K ≤ S.size ∧ L1.length ≤ L.length ∧ L1.length ≤ cap1 ∧ t = .slice (some ⟨b, o1, none⟩) L1.length cap1 ∧ k = .int .i64 K ∧ Hid (∀ W, StrsAt W b o L → StrsAt W b o1 L1) ∧ Hid (Short L1) ∧ Hid (Jz S K i') ∧ Hid (Ex wr w.heap.size N i' ⟨g'.toArray⟩) ∧ Hid (Ex wr (w.heap.size + 1) ⟨#[]⟩ ⟨0, 0, 0, 0, 0, 0⟩ ⟨#[]⟩) ∧ Hid (Below w.heap.size w wr) ∧ Hid (T = Byt.opsP ((S.data.toList.map UInt8.toNat).drop K) (decide (0 < K)) i' g' L1)) (fun _ k _ => S.size - (intOf k).toNat)
  case atStart => exact ⟨o, cap, 0, L, i, g, by omega, by omega, hcap, rfl, rfl, hide1 (fun _ h => h), hs, hide1 (fun _ _ _ _ => him.out), by rw [← HG.out]; exact HY, HX, HB, by simpa using HT⟩
  case round =>
    obtain ⟨o1, cap1, K, L1, i', g', hK, hl1, hc1, rfl, rfl, hst, hsh, hjz, hx, hy, hb1, hh⟩ := hrel
    clear HB HX HY HG HT
    by_cases hlt : K < S.size
    · rw [drop_sh S K hlt] at hh
      obtain ⟨c, hc⟩ : ∃ c, c = S[K].toNat := ⟨_, rfl⟩
      rw [← hc] at hh
      have hcl := hlet.out K hlt
      rw [← hc] at hcl
      have HC := hide1 hc
      have HCL := hide1 hcl
      clear hc hcl
      have hws : Hid (StrsAt wr b o1 L1) := StrsAt.more (hide1 (hst.out _ hw.out)) hb hb1.out
      have hbr : b < wr.heap.size := Nat.lt_of_lt_of_le hb hb1.out.size
      go_upto_if 19 with fail
      go_cut [2] from 19 to 31 (fun t wx => ∃ (o2 cap2 : Nat) (L2 : List (List UInt8)), t = .slice (some ⟨b, o2, none⟩) L2.length cap2 ∧ wx = wr ∧ L2.length ≤ L.length ∧ L2.length ≤ cap2 ∧ Hid (L2 = L1.drop (if 0 < K then 1 else 0)) ∧ Hid (0 < K → L1[0]?.getD [] = [44]) ∧ Hid (∀ W, StrsAt W b o L → StrsAt W b o2 L2))
      case first =>
        by_cases hk : 0 < K
        · have hk' : decide (0 < K) = true := by simp [hk]
          cases L1 with
          | nil =>
            have hno : Hid (T = none) := by
              show T = none
              rw [hh.out]
              exact ops_noT hk (by simp)
            clear hh
            have x0 := hx.out.c0
            have x1 := hx.out.c1
            have x2 := hx.out.c2
            have x3 := hx.out.c3
            have x4 := hx.out.c4
            have x5 := hx.out.c5
            have x6 := hx.out.c6
            have x7 := hx.out.c7
            have x8 := hx.out.c8
            have x9 := hx.out.c9
            have xf := hx.out.fro
            have xl := hx.out.lt
            have z0 := hy.out.c0
            have z1 := hy.out.c1
            have z2 := hy.out.c2
            have z3 := hy.out.c3
            have z4 := hy.out.c4
            have z5 := hy.out.c5
            have z6 := hy.out.c6
            have z7 := hy.out.c7
            have z8 := hy.out.c8
            have z9 := hy.out.c9
            have zf := hy.out.fro
            have zl := hy.out.lt
            go_wp2_with fail
            refine bodyPost_ret (v := .tuple #[itA N i' ⟨g'.toArray⟩, .bool false]) (by simp [results, Tryz.results173, go_sem, itA, ins0, x0, x1, x2, x3, x4, x5, x6, x7, x8, x9, xf, xl, z0, z1, z2, z3, z4, z5, z6, z7, z8, z9, zf, zl]) rfl ⟨⟨i', ⟨g'.toArray⟩, by rw [hno.out] <;> rfl, hide1 (fun x y h => by rw [hno.out] at h; cases h)⟩, ?_⟩
            repeat (first | with_reducible exact Below.refl _ _ | with_reducible exact hb1.out | (with_reducible refine Below.setCell ?_ (by simp) _) | (with_reducible refine Below.alloc ?_ (by simp) _))
          | cons t0 LT =>
            have hc0 := hws.out 0 (by simp)
            obtain ⟨X0, hX0⟩ : ∃ X : ByteArray, X = ⟨t0.toArray⟩ := ⟨_, rfl⟩
            have d0 : wr.cell? ⟨b, o1, none⟩ = some (.string X0) := by rw [← Nat.add_zero o1, hc0, hX0]; rfl
            have f0 : X0.data.toList = t0 := by rw [hX0]
            have q1 : (X0.toList == [44]) = decide (X0.data.toList = [44]) := eq_lit X0 [44]
            obtain ⟨o2, cap2, hsl, hc2, hst2⟩ := slice_drop b o1 cap1 (t0 :: LT) 1 1 rfl (by simp) hc1
            simp only [List.drop_succ_cons, List.drop_zero] at hsl hc2 hst2
            simp only [List.length_cons] at hsl hl1 hc1 ⊢
            have HS2 := hide1 hst2
            have hne : ((LT.length : Int) + 1 == 0) = false := by simp; omega
            have hne2 : (LT.length + 1 == 0) = false := by simp
            clear hc0 hX0 hst2
            by_cases k1 : X0.data.toList = [44]
            · rw [decide_eq_true k1] at q1
              have HK1 : Hid (t0 = [44]) := by rw [← f0]; exact hide1 k1
              have HK0 := hide1 hk
              clear k1 f0
              go_wp2_with fail
              go_meet
              case rel => exact ⟨o2, cap2, LT, rfl, rfl, by omega, hc2, by rw [if_pos HK0.out]; exact hide1 rfl, hide1 (fun _ => by rw [HK1.out]; rfl), hide1 (fun W h => HS2.out W (hst.out W h))⟩
            · rw [decide_eq_false k1] at q1
              have hno : Hid (T = none) := by
                show T = none
                rw [hh.out]
                exact ops_noT hk (by rw [← f0]; exact k1)
              clear k1 f0 hh
              have x0 := hx.out.c0
              have x1 := hx.out.c1
              have x2 := hx.out.c2
              have x3 := hx.out.c3
              have x4 := hx.out.c4
              have x5 := hx.out.c5
              have x6 := hx.out.c6
              have x7 := hx.out.c7
              have x8 := hx.out.c8
              have x9 := hx.out.c9
              have xf := hx.out.fro
              have xl := hx.out.lt
              have z0 := hy.out.c0
              have z1 := hy.out.c1
              have z2 := hy.out.c2
              have z3 := hy.out.c3
              have z4 := hy.out.c4
              have z5 := hy.out.c5
              have z6 := hy.out.c6
              have z7 := hy.out.c7
              have z8 := hy.out.c8
              have z9 := hy.out.c9
              have zf := hy.out.fro
              have zl := hy.out.lt
              go_wp2_with fail
              refine bodyPost_ret (v := .tuple #[itA N i' ⟨g'.toArray⟩, .bool false]) (by simp [results, Tryz.results173, go_sem, itA, ins0, x0, x1, x2, x3, x4, x5, x6, x7, x8, x9, xf, xl, z0, z1, z2, z3, z4, z5, z6, z7, z8, z9, zf, zl]) rfl ⟨⟨i', ⟨g'.toArray⟩, by rw [hno.out] <;> rfl, hide1 (fun x y h => by rw [hno.out] at h; cases h)⟩, ?_⟩
              repeat (first | with_reducible exact Below.refl _ _ | with_reducible exact hb1.out | (with_reducible refine Below.setCell ?_ (by simp) _) | (with_reducible refine Below.alloc ?_ (by simp) _))
        · have hk' : decide (0 < K) = false := by simp [hk]
          have HK := hide1 hk
          obtain rfl : K = 0 := by omega
          clear hk hk'
          go_wp2_with fail
          go_meet
          case rel => exact ⟨o1, cap1, L1, rfl, rfl, hl1, hc1, hide1 (by rw [if_neg (by omega)]; rfl), hide1 (fun h => absurd h HK.out), hst⟩
      case rest =>
        obtain ⟨o2, cap2, L2, rfl, rfl, hl2, hc2, hd2, hcm, hst2⟩ := hcut
        rw [ops_yesT hcm.out, ← hd2.out] at hh
        have hsh2 : Hid (Short L2) := by rw [hd2.out]; exact hide1 (fun t ht => hsh.out t (List.mem_of_mem_drop ht))
        have hw2 : Hid (StrsAt wc b o2 L2) := StrsAt.more (hide1 (hst2.out _ hw.out)) hb hb1.out
        obtain ⟨O, hO⟩ : ∃ O, O = Byt.opdP i' g' c L2 := ⟨_, rfl⟩
        rw [← hO] at hh
        have hj : c = 106 → i'.im = 0 := fun h => hjz.out K (Nat.le_refl _) (by omega) (by rw [sh_get S K hlt, ← HC.out, h])
        have hcall : ∀ W : World, Below wc.heap.size wc W → Calls Tryz.prog 224 #[itA N i' ⟨g'.toArray⟩, .int .u8 c, .slice (some ⟨b, o2, none⟩) L2.length cap2] W fun e w' => OpdPost N O b o2 L2 (L2.drop (Byt.cnt c)) e ∧ Below W.heap.size W w' := by
          intro W hW
          have h := u_operand N g' i' c HCL.out hj b o2 cap2 L2 (by omega) hc2 W (StrsAt.more hw2 hbr hW) (Nat.lt_of_lt_of_le hbr hW.size) hsh2
          rw [← hO] at h
          exact h
        have hOl : ∀ x, O = some x → Hid (Jz S (K + 1) x.1) := fun x h => hide1 (Jz.next (y := x.2) hjok.out hjz.out hlt HC.out (by rw [← hO]; exact h))
        have HOl := hide1 hOl
        have hci : S[K].toNat = c := HC.out.symm
        clear hOl hO hcm HC hj hst hws
        have x0 := hx.out.c0
        have x1 := hx.out.c1
        have x2 := hx.out.c2
        have x3 := hx.out.c3
        have x4 := hx.out.c4
        have x5 := hx.out.c5
        have x6 := hx.out.c6
        have x7 := hx.out.c7
        have x8 := hx.out.c8
        have x9 := hx.out.c9
        have xf := hx.out.fro
        have xl := hx.out.lt
        have HCA := hide1 ((hcall wc.drew (Below.refl _ _).drew).mono fun e w1 h => (⟨h.1, h.2⟩ : _ ∧ Below wc.heap.size wc.drew w1))
        have hnz := (Ex.new wc ⟨#[]⟩ ⟨0, 0, 0, 0, 0, 0⟩ ⟨#[]⟩).more (w' := (wc.alloc (itC ⟨#[]⟩ ⟨0, 0, 0, 0, 0, 0⟩ ⟨#[]⟩)).drew) (n := wc.heap.size + 1) ((Below.refl _ _).drew) (by omega)
        have hwz : Below wc.heap.size wc (wc.alloc (itC ⟨#[]⟩ ⟨0, 0, 0, 0, 0, 0⟩ ⟨#[]⟩)).drew := ((Below.refl _ _).alloc (Nat.le_refl _) _).drew
        have HCB := hide1 ((hcall (wc.alloc (itC ⟨#[]⟩ ⟨0, 0, 0, 0, 0, 0⟩ ⟨#[]⟩)).drew hwz).mono fun e w1 h => (⟨h.1, hwz.trans (h.2.mono hwz.size), hide1 (hnz.more h.2 hnz.lt)⟩ : _ ∧ Below wc.heap.size wc w1 ∧ Hid (Ex w1 wc.heap.size ⟨#[]⟩ ⟨0, 0, 0, 0, 0, 0⟩ ⟨#[]⟩)))
        unfold itA at HCA HCB
        unfold itC at HCB
        clear hcall hnz hwz
        go_upto_region 8 with fail
        go_cut [9, 10, 11] from 32 to 41 (fun p t q wx => ∃ (nb o3 len3 cap3 : Nat) (I1 : Ins) (G1 : ByteArray), p = .pointer (some ⟨nb, 0, none⟩) ∧ t = .slice (some ⟨b, o3, none⟩) len3 cap3 ∧ q = .bool O.isSome ∧ Hid (Ex wx nb N I1 G1 ∧ Ex wx w.heap.size N i' ⟨g'.toArray⟩ ∧ Ex wx (w.heap.size + 1) ⟨#[]⟩ ⟨0, 0, 0, 0, 0, 0⟩ ⟨#[]⟩ ∧ Below w.heap.size w wx ∧ w.heap.size + 2 ≤ nb) ∧ Hid (∀ x y, O = some (x, y) → I1 = x ∧ G1 = ⟨y.toArray⟩ ∧ len3 = (L2.drop (Byt.cnt c)).length ∧ len3 ≤ cap3 ∧ (∀ W, StrsAt W b o2 L2 → StrsAt W b o3 (L2.drop (Byt.cnt c)))))
        case first =>
          go_region_with (go_at_call 224; first | ((with_reducible refine HCA.out.mono ?_); rintro e w1 ⟨⟨I1, G1, o3, len3, cap3, rfl, hfin⟩, hb2⟩; unfold itA) | ((with_reducible refine HCB.out.mono ?_); rintro e w1 ⟨⟨I1, G1, o3, len3, cap3, rfl, hfin⟩, hb2, hz⟩; unfold itA; have z0 := hz.out.c0; have z1 := hz.out.c1; have z2 := hz.out.c2; have z3 := hz.out.c3; have z4 := hz.out.c4; have z5 := hz.out.c5; have z6 := hz.out.c6; have z7 := hz.out.c7; have z8 := hz.out.c8; have z9 := hz.out.c9; have zf := hz.out.fro; have zl := hz.out.lt))
          all_goals (go_wp2_with fail; go_meet)
          all_goals first | (refine ⟨w1.heap.size, o3, len3, cap3, I1, G1, by with_reducible rfl, rfl, rfl, ?_, hfin⟩; exact xendA hx.out hy.out hb1.out hb2) | (refine ⟨wc.heap.size, o3, len3, cap3, I1, G1, by with_reducible rfl, rfl, rfl, ?_, hfin⟩; exact xendB hx.out hy.out hb1.out hb2 hz.out)
        case rest =>
          obtain ⟨nb, o3, len3, cap3, I1, G1, rfl, rfl, rfl, hq, hfin⟩ := hcut
          clear HCA HCB x0 x1 x2 x3 x4 x5 x6 x7 x8 x9 xf xl hx hy hb1 hbr hw2
          have hx := hq.out.2.1
          have hy := hq.out.2.2.1
          have hz := hq.out.1
          have hb1 := hide1 hq.out.2.2.2.1
          have hnb := hq.out.2.2.2.2
          have HX := hide1 hx
          have HY := hide1 hy
          have x0 := hx.c0
          have x1 := hx.c1
          have x2 := hx.c2
          have x3 := hx.c3
          have x4 := hx.c4
          have x5 := hx.c5
          have x6 := hx.c6
          have x7 := hx.c7
          have x8 := hx.c8
          have x9 := hx.c9
          have xf := hx.fro
          have xl := hx.lt
          have y0 := hz.c0
          have y1 := hz.c1
          have y2 := hz.c2
          have y3 := hz.c3
          have y4 := hz.c4
          have y5 := hz.c5
          have y6 := hz.c6
          have y7 := hz.c7
          have y8 := hz.c8
          have y9 := hz.c9
          have yf := hz.fro
          have yl := hz.lt
          have z0 := hy.c0
          have z1 := hy.c1
          have z2 := hy.c2
          have z3 := hy.c3
          have z4 := hy.c4
          have z5 := hy.c5
          have z6 := hy.c6
          have z7 := hy.c7
          have z8 := hy.c8
          have z9 := hy.c9
          have zf := hy.fro
          have zl := hy.lt
          clear hx hy hz hq
          cases O with
          | none =>
            have hno : Hid (T = none) := hh
            clear hh HOl hfin
            go_wp2_with fail
            refine bodyPost_ret (v := .tuple #[itA N i' ⟨g'.toArray⟩, .bool false]) (by simp [results, Tryz.results173, go_sem, itA, ins0, x0, x1, x2, x3, x4, x5, x6, x7, x8, x9, xf, xl, z0, z1, z2, z3, z4, z5, z6, z7, z8, z9, zf, zl]) rfl ⟨⟨i', ⟨g'.toArray⟩, by rw [hno.out] <;> rfl, hide1 (fun x y h => by rw [hno.out] at h; cases h)⟩, ?_⟩
            repeat (first | with_reducible exact Below.refl _ _ | with_reducible exact hb1.out | (with_reducible refine Below.setCell ?_ (by simp) _) | (with_reducible refine Below.alloc ?_ (by simp) _))
          | some r =>
            obtain ⟨x, y⟩ := r
            obtain ⟨h1, h2, h3, h4, h5⟩ := hfin.out x y rfl
            have HJ := HOl.out _ rfl
            have hgo : Hid (T = Byt.opsP ((S.data.toList.map UInt8.toNat).drop (K + 1)) true x y (L2.drop (Byt.cnt c))) := hh
            subst h1 h2 h3
            have hL3 : (L2.drop (Byt.cnt c)).length ≤ L.length := by rw [List.length_drop]; omega
            have hsh3 : Hid (Short (L2.drop (Byt.cnt c))) := hide1 (fun t ht => hsh2.out t (List.mem_of_mem_drop ht))
            have hst3 : Hid (∀ W, StrsAt W b o L → StrsAt W b o3 (L2.drop (Byt.cnt c))) := hide1 (fun W h => h5 W (hst2.out W h))
            obtain ⟨L3, hL3e⟩ : ∃ L3, L3 = L2.drop (Byt.cnt c) := ⟨_, rfl⟩
            rw [← hL3e] at hgo hL3 hsh3 hst3 h4
            rw [← hL3e]
            clear h5 hh HOl hfin hL3e
            go_wp2_with fail
            go_roundw
            case rel =>
              first
                | exact ⟨o3, cap3, K + 1, L3, I1, y, by omega, hL3, h4, rfl, by go_num, hst3, hsh3, HJ, hide1 (Ex.put HX.out), hide1 (HY.out.put_ne (by omega)), hide1 (below_putI hb1.out (Nat.le_refl _) _ _ _), by rw [decide_eq_true (Nat.succ_pos K)]; exact hgo⟩
                | ((repeat apply Exists.intro); exact ⟨⟨o3, cap3, K + 1, L3, I1, y, by omega, hL3, h4, rfl, by go_num, hst3, hsh3, HJ, hide1 (Ex.put HX.out), hide1 (HY.out.put_ne (by omega)), hide1 (below_putI hb1.out (Nat.le_refl _) _ _ _), by rw [decide_eq_true (Nat.succ_pos K)]; exact hgo⟩, rfl⟩)
            case measure => simp [intOf]; omega
    · have hlt' : decide ((K : Int) < (S.size : Int)) = false := by simp; omega
      rw [List.drop_eq_nil_of_le (by rw [List.length_map, Array.length_toList]; show S.size ≤ K; omega)] at hh
      obtain ⟨G1, hG1⟩ : ∃ G1 : ByteArray, G1 = ⟨g'.toArray⟩ := ⟨_, rfl⟩
      rw [← hG1] at hx
      have HG1 := hide1 hG1
      clear hG1
      have x0 := hx.out.c0
      have x1 := hx.out.c1
      have x2 := hx.out.c2
      have x3 := hx.out.c3
      have x4 := hx.out.c4
      have x5 := hx.out.c5
      have x6 := hx.out.c6
      have x7 := hx.out.c7
      have x8 := hx.out.c8
      have x9 := hx.out.c9
      have xf := hx.out.fro
      have xl := hx.out.lt
      have z0 := hy.out.c0
      have z1 := hy.out.c1
      have z2 := hy.out.c2
      have z3 := hy.out.c3
      have z4 := hy.out.c4
      have z5 := hy.out.c5
      have z6 := hy.out.c6
      have z7 := hy.out.c7
      have z8 := hy.out.c8
      have z9 := hy.out.c9
      have zf := hy.out.fro
      have zl := hy.out.lt
      cases L1 with
      | nil =>
        have hT : Hid (T = some (i', g')) := by
          show T = _
          rw [hh.out]; simp only [Byt.opsP]; rw [if_pos (by simp)]
        clear hh
        go_wp2_with fail
        refine bodyPost_ret (v := .tuple #[itA N i' G1, .bool true]) (by simp [results, Tryz.results173, go_sem, itA, ins0, x0, x1, x2, x3, x4, x5, x6, x7, x8, x9, xf, xl, z0, z1, z2, z3, z4, z5, z6, z7, z8, z9, zf, zl]) rfl ⟨⟨i', G1, by rw [hT.out] <;> rfl, hide1 (fun x y h => by rw [hT.out] at h; simp only [Option.some.injEq, Prod.mk.injEq] at h; obtain ⟨rfl, rfl⟩ := h; exact ⟨rfl, HG1.out⟩)⟩, ?_⟩
        repeat (first | with_reducible exact Below.refl _ _ | with_reducible exact hb1.out | (with_reducible refine Below.setCell ?_ (by simp) _) | (with_reducible refine Below.alloc ?_ (by simp) _))
      | cons t0 LT =>
        have hno : Hid (T = none) := by
          show T = _
          rw [hh.out]; simp only [Byt.opsP]; rw [if_neg (by simp)]
        have hne : ((LT.length : Int) + 1 == 0) = false := by simp; omega
        have hne2 : (LT.length + 1 == 0) = false := by simp
        simp only [List.length_cons] at hl1 hc1 ⊢
        clear hh
        go_wp2_with fail
        refine bodyPost_ret (v := .tuple #[itA N i' G1, .bool false]) (by simp [results, Tryz.results173, go_sem, itA, ins0, x0, x1, x2, x3, x4, x5, x6, x7, x8, x9, xf, xl, z0, z1, z2, z3, z4, z5, z6, z7, z8, z9, zf, zl]) rfl ⟨⟨i', G1, by rw [hno.out] <;> rfl, hide1 (fun x y h => by rw [hno.out] at h; cases h)⟩, ?_⟩
        repeat (first | with_reducible exact Below.refl _ _ | with_reducible exact hb1.out | (with_reducible refine Below.setCell ?_ (by simp) _) | (with_reducible refine Below.alloc ?_ (by simp) _))
end Go.Proofs.YthfofjkfbhahoaaGreatDoor
end
