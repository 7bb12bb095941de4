import Derived.Test.YthfofjkfbhahoaaGreatDoorXP
import Derived.Test.YthfofjkfbhahoaaGreatDoorXB
import Derived.Deep.RegionWith
import Derived.BigRegion
import Derived.Deep.CutBlock
import Derived.Deep.CutRange
section
namespace Go.Proofs.YthfofjkfbhahoaaGreatDoor
open Go.RowKit
set_option linter.unusedSimpArgs false
def put8 (w : World) (b : Nat) (N : ByteArray) (i : Ins) (G : ByteArray) : World :=
  (((((((w.setCell ⟨b, 0, none⟩ (.string N)).setCell ⟨b, 1, none⟩ (.int .i64 i.op)).setCell ⟨b, 2, none⟩ (.int .i64 i.rd)).setCell ⟨b, 3, none⟩ (.int .i64 i.rs1)).setCell ⟨b, 4, none⟩ (.int .i64 i.rs2)).setCell ⟨b, 5, none⟩ (.int .i64 i.im)).setCell ⟨b, 6, none⟩ (.int .i64 i.ln)).setCell ⟨b, 7, none⟩ (.string G)
theorem Bx.put {w : World} {b : Nat} {N G N' G' : ByteArray} {i i' : Ins} (h : Bx w b N i G) : Bx (put8 w b N' i' G') b N' i' G' := by
  have h0 := h.c0
  have h1 := h.c1
  have h2 := h.c2
  have h3 := h.c3
  have h4 := h.c4
  have h5 := h.c5
  have h6 := h.c6
  have h7 := h.c7
  have hf := h.fro
  have hl := h.lt
  unfold put8
  refine ⟨?_, ?_, ?_, ?_, ?_, ?_, ?_, ?_, ?_, ?_⟩ <;> simp [go_sem, h0, h1, h2, h3, h4, h5, h6, h7, hf, hl]
theorem below_put8 {n : Nat} {w w' : World} (h : Below n w w') {b : Nat} (hn : n ≤ b) (N : ByteArray) (i : Ins) (G : ByteArray) : Below n w (put8 w' b N i G) := by
  unfold put8
  repeat (first | with_reducible exact h | (with_reducible refine Below.setCell ?_ hn _))
theorem Bx.put_ne {w : World} {b c : Nat} {N G N' G' : ByteArray} {i i' : Ins} (h : Bx w b N i G) (hbc : b ≠ c) : Bx (put8 w c N' i' G') b N i G := by
  have h0 := h.c0
  have h1 := h.c1
  have h2 := h.c2
  have h3 := h.c3
  have h4 := h.c4
  have h5 := h.c5
  have h6 := h.c6
  have h7 := h.c7
  have hf := h.fro
  have hl := h.lt
  have hcb : ¬ c = b := fun e => hbc e.symm
  unfold put8
  refine ⟨?_, ?_, ?_, ?_, ?_, ?_, ?_, ?_, ?_, ?_⟩ <;> simp [go_sem, h0, h1, h2, h3, h4, h5, h6, h7, hf, hl, hbc, hcb]
/-- what readOperand hands back, in parts -/
def oN (N : ByteArray) (o : Option (Ins × List UInt8)) : ByteArray := if o.isSome then N else ⟨#[]⟩
def oI (o : Option (Ins × List UInt8)) : Ins := (o.map Prod.fst).getD ins0
def oG (o : Option (Ins × List UInt8)) : ByteArray := ⟨((o.map Prod.snd).getD []).toArray⟩
theorem lnO_parts (N : ByteArray) (o : Option (Ins × List UInt8)) : lnO N o = .tuple #[.agg #[.string (oN N o), .int .i64 (oI o).op, .int .i64 (oI o).rd, .int .i64 (oI o).rs1, .int .i64 (oI o).rs2, .int .i64 (oI o).im, .int .i64 (oI o).ln, .string (oG o)], .bool o.isSome] := by
  cases o with
  | none => rfl
  | some x => obtain ⟨i, g⟩ := x; rfl
theorem drop_sh (S : ByteArray) (K : Nat) (h : K < S.size) : (S.data.toList.map UInt8.toNat).drop K = S[K].toNat :: (S.data.toList.map UInt8.toNat).drop (K + 1) := by
  have hl : K < (S.data.toList.map UInt8.toNat).length := by rw [List.length_map, Array.length_toList]; exact h
  rw [List.drop_eq_getElem_cons hl]; simp; rfl
theorem ops_no {cs : List Nat} {c : Nat} {K A : Nat} {i : Ins} {g : List UInt8} {L : List (List UInt8)} (hk : 0 < K) (hc : ¬ L[A]?.getD [] = [44]) : Byt.opsP (c :: cs) (decide (0 < K)) i g (L.drop A) = none := by
  rw [decide_eq_true hk]; simp only [Byt.opsP]; rw [if_pos ⟨trivial, by rw [drop_get, Nat.add_zero]; exact hc⟩]
theorem ops_yes {cs : List Nat} {c : Nat} {K A : Nat} {i : Ins} {g : List UInt8} {L : List (List UInt8)} (hc : 0 < K → L[A]?.getD [] = [44]) : Byt.opsP (c :: cs) (decide (0 < K)) i g (L.drop A) = match Byt.opdP i g c (L.drop (A + if 0 < K then 1 else 0)) with | none => none | some (x, y) => Byt.opsP cs true x y (L.drop ((A + if 0 < K then 1 else 0) + Byt.cnt c)) := by
  by_cases hk : 0 < K
  · have := hc hk
    rw [decide_eq_true hk, if_pos hk]; simp only [Byt.opsP, if_true]; rw [if_neg (by rw [drop_get, Nat.add_zero]; exact fun h => h.2 this), List.drop_drop, List.drop_drop, Nat.add_assoc]; rfl
  · rw [decide_eq_false hk, if_neg hk]; simp only [Byt.opsP, Bool.false_eq_true, false_and, if_false]; rw [List.drop_drop, List.drop_drop, Nat.add_zero, Nat.zero_add]; rfl
theorem endA {w wc w1 : World} {N N1 G G1 : ByteArray} {i I1 : Ins} (hx : Bx wc w.heap.size N i G) (hy : Bx wc (w.heap.size + 1) ⟨#[]⟩ ⟨0, 0, 0, 0, 0, 0⟩ ⟨#[]⟩) (hb : Below w.heap.size w wc) (hb2 : Below wc.heap.size wc.drew w1) :
    Hid (Bx (w1.alloc (lnC N1 I1 G1)) w1.heap.size N1 I1 G1 ∧ Bx (w1.alloc (lnC N1 I1 G1)) w.heap.size N i G ∧ Bx (w1.alloc (lnC N1 I1 G1)) (w.heap.size + 1) ⟨#[]⟩ ⟨0, 0, 0, 0, 0, 0⟩ ⟨#[]⟩ ∧ Below w.heap.size w (w1.alloc (lnC N1 I1 G1)) ∧ w.heap.size + 2 ≤ w1.heap.size) := by
  have h3 : Below wc.heap.size wc w1 := (Below.refl _ _).drew.trans hb2
  have hl := hy.lt
  have hs := h3.size
  exact ⟨Bx.new _ _ _ _, (hx.more h3 hx.lt).alloc _, (hy.more h3 hy.lt).alloc _, (hb.trans (h3.mono hb.size)).alloc (by omega) _, by omega⟩
theorem endB {w wc w1 : World} {N N1 G G1 : ByteArray} {i I1 : Ins} (hx : Bx wc w.heap.size N i G) (hy : Bx wc (w.heap.size + 1) ⟨#[]⟩ ⟨0, 0, 0, 0, 0, 0⟩ ⟨#[]⟩) (hb : Below w.heap.size w wc) (h3 : Below wc.heap.size wc w1) (hz : Bx w1 wc.heap.size ⟨#[]⟩ ⟨0, 0, 0, 0, 0, 0⟩ ⟨#[]⟩) :
    Hid (Bx (put8 w1 wc.heap.size N1 I1 G1) wc.heap.size N1 I1 G1 ∧ Bx (put8 w1 wc.heap.size N1 I1 G1) w.heap.size N i G ∧ Bx (put8 w1 wc.heap.size N1 I1 G1) (w.heap.size + 1) ⟨#[]⟩ ⟨0, 0, 0, 0, 0, 0⟩ ⟨#[]⟩ ∧ Below w.heap.size w (put8 w1 wc.heap.size N1 I1 G1) ∧ w.heap.size + 2 ≤ wc.heap.size) := by
  have hl := hy.lt
  have hl2 := hx.lt
  exact ⟨hz.put, (hx.more h3 hx.lt).put_ne (by omega), (hy.more h3 hy.lt).put_ne (by omega), below_put8 (hb.trans (h3.mono hb.size)) (by omega) _ _ _, by omega⟩
set_option maxHeartbeats 4000000 in
theorem a_readOperands (N : ByteArray) (i : Ins) (g : List UInt8) (S : ByteArray) (hS : Hid (Nm.shape i.op = S)) (hlen : S.size ≤ 8) (hlet : Hid (∀ k (h : k < S.size), S[k].toNat = 100 ∨ S[k].toNat = 115 ∨ S[k].toNat = 116 ∨ S[k].toNat = 109 ∨ S[k].toNat = 106 ∨ S[k].toNat = 117 ∨ S[k].toNat = 105))
    (b o cap : Nat) (L : List (List UInt8)) (hL : L.length ≤ 5000) (w : World) (hw : Hid (StrsAt w b o L)) (hb : b < w.heap.size) (hs : Hid (Short L)) :
    Calls Tryz.prog 197 #[lnA N i ⟨g.toArray⟩, .slice (some ⟨b, o, none⟩) L.length cap] w fun e w' => e = .returned (lnO N (Byt.opsP (S.data.toList.map UInt8.toNat) false i g L)) ∧ Below w.heap.size w w' := by
  obtain ⟨T, hT⟩ : ∃ T, T = Byt.opsP (S.data.toList.map UInt8.toNat) false i g L := ⟨_, rfl⟩
  rw [← hT]
  have HT := hide1 hT
  clear hT
  obtain ⟨G, hG⟩ : ∃ G : ByteArray, G = ⟨g.toArray⟩ := ⟨_, rfl⟩
  rw [← hG]
  have B2 : Below w.heap.size w ((w.alloc (lnC N i G)).alloc (lnC ⟨#[]⟩ ins0 ⟨#[]⟩)) := ((Below.refl _ _).alloc (by simp) _).alloc (by simp) _
  have hX : Bx ((w.alloc (lnC N i G)).alloc (lnC ⟨#[]⟩ ins0 ⟨#[]⟩)) (w.heap.size + 1) ⟨#[]⟩ ins0 ⟨#[]⟩ := by
    have h := Bx.new (w.alloc (lnC N i G)) ⟨#[]⟩ ins0 ⟨#[]⟩
    simpa using h
  have hY : Bx ((w.alloc (lnC N i G)).alloc (lnC ⟨#[]⟩ ins0 ⟨#[]⟩)) w.heap.size N i G := (Bx.new w N i G).alloc _
  have HB := hide1 B2
  have HX := hide1 hX
  have HY := hide1 hY
  have HG := hide1 hG
  unfold lnC ins0 at HB HX HY
  clear B2 hX hY hG
  unfold lnA
  go_enter Tryz.func197, Tryz.ntmps197
  go_wp2_with (go_at_call 166; refine (a_Shape i.op _).mono ?_; rintro e w' ⟨rfl, rfl⟩; rw [hS.out])
  go_loopw [7, 8] (fun a k wr => ∃ (A K : Nat) (i' : Ins) (g' : List UInt8), A ≤ L.length ∧ K ≤ S.size ∧ a = .int .i64 A ∧ k = .int .i64 K ∧ Hid (Bx wr w.heap.size N i' ⟨g'.toArray⟩) ∧ Hid (Bx wr (w.heap.size + 1) ⟨#[]⟩ ⟨0, 0, 0, 0, 0, 0⟩ ⟨#[]⟩) ∧ Hid (Below w.heap.size w wr) ∧ Hid (T = Byt.opsP ((S.data.toList.map UInt8.toNat).drop K) (decide (0 < K)) i' g' (L.drop A))) (fun _ k _ => S.size - (intOf k).toNat)
  case atStart => exact ⟨0, 0, i, g, by omega, by omega, rfl, rfl, by rw [← HG.out]; exact HY, HX, HB, by simpa using HT⟩
  case round =>
    obtain ⟨A, K, i', g', hA, hK, rfl, rfl, hx, hy, hb1, hh⟩ := hrel
    clear HB HX HY HG HT
    by_cases hlt : K < S.size
    · rw [drop_sh S K hlt] at hh
      obtain ⟨c, hc⟩ : ∃ c, c = S[K].toNat := ⟨_, rfl⟩
      rw [← hc] at hh
      have hcl := hlet.out K hlt
      rw [← hc] at hcl
      have HC := hide1 hc
      have HCL := hide1 hcl
      clear hc hcl
      have hws := StrsAt.more hw hb hb1.out
      have hbr : b < wr.heap.size := Nat.lt_of_lt_of_le hb hb1.out.size
      obtain ⟨A', hA'⟩ : ∃ A', A' = A + if 0 < K then 1 else 0 := ⟨_, rfl⟩
      have hAl : A' ≤ 9000 := by rw [hA']; split <;> omega
      have HA := hide1 hA'
      clear hA'
      go_upto_if 22 with fail
      go_cut [7] from 22 to 29 (fun a wx => a = .int .i64 (A' : Int) ∧ wx = wr ∧ Hid (0 < K → L[A]?.getD [] = [44]))
      case first =>
        by_cases hk : 0 < K
        · have hk' : decide (0 < K) = true := by simp [hk]
          have c0 := fun w hw => a_tokenAt b o cap L hL A (by omega) w hw
          obtain ⟨t0, h0⟩ : ∃ t, t = L[A]?.getD [] := ⟨_, rfl⟩
          rw [← h0] at c0
          have H0 := hide1 h0
          clear h0
          obtain ⟨X0, e0⟩ : ∃ X : ByteArray, X = ⟨t0.toArray⟩ := ⟨_, rfl⟩
          rw [show Byt.strV t0 = .string X0 by rw [e0]; rfl] at c0
          have f0 : X0.data.toList = t0 := by rw [e0]
          clear e0
          rw [← f0] at H0
          clear f0
          have C0 := hide1 c0
          clear c0
          have q1 : (X0.toList == [44]) = decide (X0.data.toList = [44]) := eq_lit X0 [44]
          by_cases k1 : X0.data.toList = [44]
          · rw [decide_eq_true k1] at q1
            have HK1 := hide1 k1
            have hA1 : Hid ((A' : Int) = A + 1) := by
              have := HA.out
              rw [if_pos hk] at this
              show (A' : Int) = A + 1
              omega
            clear k1 HA
            go_wp2_with (go_at_call 239; refine (C0.out _ hws).mono ?_; rintro e w' ⟨rfl, rfl⟩)
            go_meet
            case rel => exact ⟨by rw [hA1.out], rfl, fun _ => by rw [← H0.out]; exact HK1.out⟩
          · rw [decide_eq_false k1] at q1
            have hno : Hid (T = none) := by
              show T = none
              rw [hh.out]
              exact ops_no hk (by rw [← H0.out]; exact k1)
            clear k1 HA hh
            have z0 := hy.out.c0
            have z1 := hy.out.c1
            have z2 := hy.out.c2
            have z3 := hy.out.c3
            have z4 := hy.out.c4
            have z5 := hy.out.c5
            have z6 := hy.out.c6
            have z7 := hy.out.c7
            have zf := hy.out.fro
            have zl := hy.out.lt
            go_wp2_with (go_at_call 239; refine (C0.out _ hws).mono ?_; rintro e w' ⟨rfl, rfl⟩)
            refine bodyPost_ret (v := lnO N none) (by simp [results, Tryz.results197, go_sem, lnO, lnA, ins0, z0, z1, z2, z3, z4, z5, z6, z7, zf, zl]) rfl ⟨by rw [hno.out], ?_⟩
            repeat (first | with_reducible exact Below.refl _ _ | with_reducible exact hb1.out | (with_reducible refine Below.setCell ?_ (by simp) _) | (with_reducible refine Below.alloc ?_ (by simp) _))
        · have hk' : decide (0 < K) = false := by simp [hk]
          have hA1 : Hid ((A' : Int) = A) := by
            have := HA.out
            rw [if_neg hk] at this
            show (A' : Int) = A
            omega
          have HK := hide1 hk
          obtain rfl : K = 0 := by omega
          clear hk hk' HA
          go_wp2
          go_meet
          case rel => exact ⟨by rw [hA1.out], rfl, fun h => absurd h HK.out⟩
      case rest =>
        obtain ⟨rfl, rfl, hcm⟩ := hcut
        rw [ops_yes hcm.out, ← HA.out] at hh
        have hcc := HC.out
        obtain ⟨O, hO⟩ : ∃ O, O = Byt.opdP i' g' c (L.drop A') := ⟨_, rfl⟩
        rw [← hO] at hh
        have hOl : O.isSome = true → A' + Byt.cnt c ≤ L.length := by
          intro h
          obtain ⟨x, hx⟩ := Option.isSome_iff_exists.1 h
          have h1 := Byt.opd_len i' g' c (L.drop A') x (by rw [← hO]; exact hx)
          rw [List.length_drop] at h1
          have : 1 ≤ Byt.cnt c := by unfold Byt.cnt; split <;> omega
          omega
        have HOl := hide1 hOl
        have hcall : ∀ W : World, Below wc.heap.size wc W → Calls Tryz.prog 240 #[.agg #[.string N, .int .i64 i'.op, .int .i64 i'.rd, .int .i64 i'.rs1, .int .i64 i'.rs2, .int .i64 i'.im, .int .i64 i'.ln, .string ⟨g'.toArray⟩], .int .u8 c, .slice (some ⟨b, o, none⟩) L.length cap, .int .i64 A'] W fun e w' => e = .returned (.tuple #[.agg #[.string (oN N O), .int .i64 (oI O).op, .int .i64 (oI O).rd, .int .i64 (oI O).rs1, .int .i64 (oI O).rs2, .int .i64 (oI O).im, .int .i64 (oI O).ln, .string (oG O)], .bool O.isSome]) ∧ Below W.heap.size W w' := by
          intro W hW
          have h := a_readOperand N g' i' c HCL.out b o cap L hL A' hAl W (StrsAt.more hws hbr hW) (Nat.lt_of_lt_of_le hbr hW.size) hs
          rw [← hO, lnO_parts] at h
          exact h
        have hci : S[K].toNat = c := hcc.symm
        clear hOl hO HA hcm HC hcc
        have x0 := hx.out.c0
        have x1 := hx.out.c1
        have x2 := hx.out.c2
        have x3 := hx.out.c3
        have x4 := hx.out.c4
        have x5 := hx.out.c5
        have x6 := hx.out.c6
        have x7 := hx.out.c7
        have xf := hx.out.fro
        have xl := hx.out.lt
        obtain ⟨I1, hI1⟩ : ∃ x, x = oI O := ⟨_, rfl⟩
        obtain ⟨N1, hN1⟩ : ∃ x, x = oN N O := ⟨_, rfl⟩
        obtain ⟨G1, hG1⟩ : ∃ x, x = oG O := ⟨_, rfl⟩
        obtain ⟨ob, hob⟩ : ∃ x, x = O.isSome := ⟨_, rfl⟩
        rw [← hI1, ← hN1, ← hG1, ← hob] at hcall
        have HP := hide1 (And.intro hI1 (And.intro hN1 (And.intro hG1 hob)))
        clear hI1 hN1 hG1 hob
        have HCA := hide1 ((hcall wc.drew (Below.refl _ _).drew).mono fun e w1 h => (⟨h.1, h.2⟩ : _ ∧ Below wc.heap.size wc.drew w1))
        have hnz := (Bx.new wc ⟨#[]⟩ ⟨0, 0, 0, 0, 0, 0⟩ ⟨#[]⟩).more (w' := (wc.alloc (lnC ⟨#[]⟩ ⟨0, 0, 0, 0, 0, 0⟩ ⟨#[]⟩)).drew) (n := wc.heap.size + 1) ((Below.refl _ _).drew) (by omega)
        have hwz : Below wc.heap.size wc (wc.alloc (lnC ⟨#[]⟩ ⟨0, 0, 0, 0, 0, 0⟩ ⟨#[]⟩)).drew := ((Below.refl _ _).alloc (Nat.le_refl _) _).drew
        have HCB := hide1 ((hcall (wc.alloc (lnC ⟨#[]⟩ ⟨0, 0, 0, 0, 0, 0⟩ ⟨#[]⟩)).drew hwz).mono fun e w1 h => (⟨h.1, hwz.trans (h.2.mono hwz.size), hide1 (hnz.more h.2 hnz.lt)⟩ : _ ∧ Below wc.heap.size wc w1 ∧ Hid (Bx w1 wc.heap.size ⟨#[]⟩ ⟨0, 0, 0, 0, 0, 0⟩ ⟨#[]⟩)))
        unfold lnC at HCB
        clear hcall hnz hwz
        go_upto_region 10 with fail
        go_cut [9, 10] from 30 to 39 (fun p q wx => ∃ nb : Nat, p = .pointer (some ⟨nb, 0, none⟩) ∧ q = .bool ob ∧ Hid (Bx wx nb N1 I1 G1 ∧ Bx wx w.heap.size N i' ⟨g'.toArray⟩ ∧ Bx wx (w.heap.size + 1) ⟨#[]⟩ ⟨0, 0, 0, 0, 0, 0⟩ ⟨#[]⟩ ∧ Below w.heap.size w wx ∧ w.heap.size + 2 ≤ nb))
        case first =>
          go_region_with (go_at_call 240; first | (with_reducible refine HCA.out.mono ?_; rintro e w1 ⟨rfl, hb2⟩) | (with_reducible refine HCB.out.mono ?_; rintro e w1 ⟨rfl, hb2, hz⟩; have z0 := hz.out.c0; have z1 := hz.out.c1; have z2 := hz.out.c2; have z3 := hz.out.c3; have z4 := hz.out.c4; have z5 := hz.out.c5; have z6 := hz.out.c6; have z7 := hz.out.c7; have zf := hz.out.fro; have zl := hz.out.lt))
          all_goals (go_wp2_with fail; go_meet)
          all_goals first | (refine ⟨w1.heap.size, by with_reducible rfl, rfl, ?_⟩; exact endA hx.out hy.out hb1.out hb2) | (refine ⟨wc.heap.size, by with_reducible rfl, rfl, ?_⟩; exact endB hx.out hy.out hb1.out hb2 hz.out)
        case rest =>
          obtain ⟨nb, rfl, rfl, hq⟩ := hcut
          clear HCA HCB x0 x1 x2 x3 x4 x5 x6 x7 xf xl hx hy hb1 hws hbr hw hs
          have hx := hq.out.2.1
          have hy := hq.out.2.2.1
          have hz := hq.out.1
          have hb1 := hide1 hq.out.2.2.2.1
          have hnb := hq.out.2.2.2.2
          have HX := hide1 hx
          have HY := hide1 hy
          have x0 := hx.c0
          have x1 := hx.c1
          have x2 := hx.c2
          have x3 := hx.c3
          have x4 := hx.c4
          have x5 := hx.c5
          have x6 := hx.c6
          have x7 := hx.c7
          have xf := hx.fro
          have xl := hx.lt
          have y0 := hz.c0
          have y1 := hz.c1
          have y2 := hz.c2
          have y3 := hz.c3
          have y4 := hz.c4
          have y5 := hz.c5
          have y6 := hz.c6
          have y7 := hz.c7
          have yf := hz.fro
          have yl := hz.lt
          have z0 := hy.c0
          have z1 := hy.c1
          have z2 := hy.c2
          have z3 := hy.c3
          have z4 := hy.c4
          have z5 := hy.c5
          have z6 := hy.c6
          have z7 := hy.c7
          have zf := hy.fro
          have zl := hy.lt
          clear hx hy hz hq
          cases O with
          | none =>
            obtain ⟨h1, h2, h3, h4⟩ := HP.out
            have h4' : ob = false := h4
            subst h4'
            have hno : Hid (T = none) := hh
            clear h1 h2 h3 h4 HP hh HOl
            go_wp2
            refine bodyPost_ret (v := lnO N none) (by simp [results, Tryz.results197, go_sem, lnO, lnA, ins0, z0, z1, z2, z3, z4, z5, z6, z7, zf, zl]) rfl ⟨by rw [hno.out], ?_⟩
            repeat (first | with_reducible exact Below.refl _ _ | with_reducible exact hb1.out | (with_reducible refine Below.setCell ?_ (by simp) _) | (with_reducible refine Below.alloc ?_ (by simp) _))
          | some r =>
            obtain ⟨x, y⟩ := r
            obtain ⟨h1, h2, h3, h4⟩ := HP.out
            have h4' : ob = true := h4
            subst h4'
            have h1' : I1 = x := h1
            have h2' : N1 = N := h2
            have h3' : G1 = ⟨y.toArray⟩ := h3
            subst h1' h2' h3'
            have hgo : Hid (T = Byt.opsP ((S.data.toList.map UInt8.toNat).drop (K + 1)) true I1 y (L.drop (A' + Byt.cnt c))) := hh
            have hAK : A' + Byt.cnt c ≤ L.length := HOl.out rfl
            clear h1 h2 h3 h4 HP hh HOl
            have hop : ∀ W, Calls Tryz.prog 241 #[.int .u8 c] W fun e w' => e = .returned (.int .i64 (Byt.cnt c : Nat)) ∧ w' = W := fun W => a_operandTokens c W
            obtain ⟨Q, hQ⟩ : ∃ Q, Q = Byt.cnt c := ⟨_, rfl⟩
            rw [← hQ] at hop hAK hgo
            have HOP := hide1 hop
            clear hop hQ
            go_wp2_with (go_at_call 241; refine (HOP.out _).mono ?_; rintro e w' ⟨rfl, rfl⟩)
            go_roundw
            case rel => 
              first
                | exact ⟨A' + Q, K + 1, I1, y, hAK, by omega, by go_num, by go_num, hide1 (Bx.put HX.out), hide1 (HY.out.put_ne (by omega)), hide1 (below_put8 hb1.out (Nat.le_refl _) _ _ _), by rw [decide_eq_true (Nat.succ_pos K)]; exact hgo⟩
                | ((repeat apply Exists.intro); exact ⟨⟨A' + Q, K + 1, I1, y, hAK, by omega, by go_num, by go_num, hide1 (Bx.put HX.out), hide1 (HY.out.put_ne (by omega)), hide1 (below_put8 hb1.out (Nat.le_refl _) _ _ _), by rw [decide_eq_true (Nat.succ_pos K)]; exact hgo⟩, rfl⟩)
            case measure => simp [intOf]; omega
    · have hlt' : decide ((K : Int) < (S.size : Int)) = false := by simp; omega
      have hx' := hx.out
      have hy' := hy.out
      have x0 := hx'.c0
      have x1 := hx'.c1
      have x2 := hx'.c2
      have x3 := hx'.c3
      have x4 := hx'.c4
      have x5 := hx'.c5
      have x6 := hx'.c6
      have x7 := hx'.c7
      have xf := hx'.fro
      have xl := hx'.lt
      have z0 := hy'.c0
      have z1 := hy'.c1
      have z2 := hy'.c2
      have z3 := hy'.c3
      have z4 := hy'.c4
      have z5 := hy'.c5
      have z6 := hy'.c6
      have z7 := hy'.c7
      have zf := hy'.fro
      have zl := hy'.lt
      clear hx' hy'
      rw [List.drop_eq_nil_of_le (by rw [List.length_map, Array.length_toList]; show S.size ≤ K; omega)] at hh
      by_cases hAL : A = L.length
      · have hT : Hid (T = some (i', g')) := by
          show T = _
          rw [hh.out]; simp only [Byt.opsP]; rw [if_pos (by rw [List.length_drop]; omega)]
        have q1 : ((A : Int) != (L.length : Int)) = false := by simp; omega
        have q2 : (A != L.length) = false := by simp; omega
        clear hh
        go_wp2
        refine bodyPost_ret (v := lnO N (some (i', g'))) (by simp [results, Tryz.results197, go_sem, lnO, lnA, ins0, x0, x1, x2, x3, x4, x5, x6, x7, xf, xl, z0, z1, z2, z3, z4, z5, z6, z7, zf, zl]) rfl ⟨by rw [hT.out], ?_⟩
        repeat (first | with_reducible exact Below.refl _ _ | with_reducible exact hb1.out | (with_reducible refine Below.setCell ?_ (by simp) _) | (with_reducible refine Below.alloc ?_ (by simp) _))
      · have hT : Hid (T = none) := by
          show T = _
          rw [hh.out]; simp only [Byt.opsP]; rw [if_neg (by rw [List.length_drop]; omega)]
        have q1 : ((A : Int) != (L.length : Int)) = true := by simp; omega
        have q2 : (A != L.length) = true := by simp; omega
        clear hh
        go_wp2
        refine bodyPost_ret (v := lnO N none) (by simp [results, Tryz.results197, go_sem, lnO, lnA, ins0, z0, z1, z2, z3, z4, z5, z6, z7, zf, zl]) rfl ⟨by rw [hT.out], ?_⟩
        repeat (first | with_reducible exact Below.refl _ _ | with_reducible exact hb1.out | (with_reducible refine Below.setCell ?_ (by simp) _) | (with_reducible refine Below.alloc ?_ (by simp) _))
end Go.Proofs.YthfofjkfbhahoaaGreatDoor
end
