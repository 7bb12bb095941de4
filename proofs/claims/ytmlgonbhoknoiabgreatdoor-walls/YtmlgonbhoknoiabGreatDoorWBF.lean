import Derived.Test.YtmlgonbhoknoiabGreatDoorWBC
import Derived.Test.YtmlgonbhoknoiabGreatDoorWBE
set_option maxHeartbeats 8000000
set_option linter.all false
namespace Go.Proofs.YtmlgonbhoknoiabGreatDoor
open Go.RowKit Go.Proofs.Tryz
section
attribute [local go_sem ↓] Go.wp_at_zero Go.wp_at_succ
def InsR (o : Ending) : Prop := ∃ a0 a1 a2 a3 a4 a5 : Int, o = .returned (.agg #[.int .i64 a0, .int .i64 a1, .int .i64 a2, .int .i64 a3, .int .i64 a4, .int .i64 a5])
def DecR (o : Ending) : Prop := ∃ a0 a1 a2 a3 a4 a5 e : Int, o = .returned (.tuple #[.agg #[.int .i64 a0, .int .i64 a1, .int .i64 a2, .int .i64 a3, .int .i64 a4, .int .i64 a5], .int .i64 e])
theorem k_Decode (x : Int) (w : World) : Calls prog 86 #[.int .i64 x] w fun o w' => DecR o /\ Kept [] w w' := by
 refine (i_Decode x w).mono ?_
 rintro o w' ⟨rfl, h⟩
 exact ⟨⟨_, _, _, _, _, _, _, rfl⟩, Below.kept h []⟩
def Sa (w0 : World) (fb rb : Nat) (f : Fc) (w : World) : Prop := BoxF w fb f.l /\ BoxF w rb [.int .i64 0, .int .i64 0, .int .i64 0, .int .i64 0, .int .i64 0, .int .i64 0] /\ Kept [] w0 w
theorem Sa.kept {w0 : World} {fb rb : Nat} {f : Fc} {w w' : World} (h : Sa w0 fb rb f w) (hk : Kept [] w w') : Sa w0 fb rb f w' := ⟨h.1.kept hk, h.2.1.kept hk, h.2.2.trans hk⟩
theorem Sa.drewN {w0 : World} {fb rb : Nat} {f : Fc} {w : World} (h : Sa w0 fb rb f w) (n : Nat) : Sa w0 fb rb f (w.drewN n) := h.kept ((Kept.refl [] w).drewN n)
theorem Sa.six {w0 : World} {fb rb : Nat} {f : Fc} {w : World} (h : Sa w0 fb rb f w) (hr : w0.heap.size <= rb) (a0 a1 a2 a3 a4 a5 : Value) : BoxF ((((((w.setCell ⟨rb, 0, none⟩ a0).setCell ⟨rb, 1, none⟩ a1).setCell ⟨rb, 2, none⟩ a2).setCell ⟨rb, 3, none⟩ a3).setCell ⟨rb, 4, none⟩ a4).setCell ⟨rb, 5, none⟩ a5) rb [a0, a1, a2, a3, a4, a5] /\ Kept [] w0 ((((((w.setCell ⟨rb, 0, none⟩ a0).setCell ⟨rb, 1, none⟩ a1).setCell ⟨rb, 2, none⟩ a2).setCell ⟨rb, 3, none⟩ a3).setCell ⟨rb, 4, none⟩ a4).setCell ⟨rb, 5, none⟩ a5) :=
 ⟨(((((h.2.1.set 0 a0 (by simp)).set 1 a1 (by simp)).set 2 a2 (by simp)).set 3 a3 (by simp)).set 4 a4 (by simp)).set 5 a5 (by simp), (((((h.2.2.setCell (.inr hr) a0).setCell (.inr hr) a1).setCell (.inr hr) a2).setCell (.inr hr) a3).setCell (.inr hr) a4).setCell (.inr hr) a5⟩
theorem at_ret (W : World) (rb : Nat) (T : Array Value) (a0 a1 a2 a3 a4 a5 : Int) (bx : BoxF W rb [.int .i64 a0, .int .i64 a1, .int .i64 a2, .int .i64 a3, .int .i64 a4, .int .i64 a5]) (hT : T[2]?.getD undef = .pointer (some ⟨rb, 0, none⟩)) {Q : Ending -> World -> Prop} (h : Q (.returned (.agg #[.int .i64 a0, .int .i64 a1, .int .i64 a2, .int .i64 a3, .int .i64 a4, .int .i64 a5])) W) : bodyPost prog Tryz.f54 Q .ret ⟨T, []⟩ W := by
 have z0 := bx.cell 0 _ rfl
 have z1 := bx.cell 1 _ rfl
 have z2 := bx.cell 2 _ rfl
 have z3 := bx.cell 3 _ rfl
 have z4 := bx.cell 4 _ rfl
 have z5 := bx.cell 5 _ rfl
 refine bodyPost_ret (v := .agg #[.int .i64 a0, .int .i64 a1, .int .i64 a2, .int .i64 a3, .int .i64 a4, .int .i64 a5]) (by simp [results, results54, go_sem, hT, z0, z1, z2, z3, z4, z5]) rfl h
set_option maxRecDepth 100000 in
theorem k_at (fb z : Nat) (f : Fc) (hz : z <= 65536) (hf1 : FcOk f z) (w : World) (hf : Hid (BoxF w fb f.l)) : Calls prog 54 #[.pointer (some ⟨fb, 0, none⟩)] w fun o w' => InsR o /\ Kept [] w w' := by
 have zr := hf1.ram
 have pp := hf1.pc
 clear hf1
 obtain ⟨rb, hrb⟩ := zn1 (w.heap.size)
 have s0 : Hid (Sa w fb rb f (w.alloc (.cells #[.int .i64 0, .int .i64 0, .int .i64 0, .int .i64 0, .int .i64 0, .int .i64 0] 60))) := hide1 ⟨hf.out.kept ((Kept.refl [] w).alloc _), by rw [hrb]; exact BoxF.new w [.int .i64 0, .int .i64 0, .int .i64 0, .int .i64 0, .int .i64 0, .int .i64 0] _, (Kept.refl [] w).alloc _⟩
 have gr : w.heap.size <= rb := by omega
 go_enter func54, ntmps54
 go_upto_region 1 with fail
 rw [<- hrb]
 obtain ⟨W, hW⟩ := zn1 (w.alloc (.cells #[.int .i64 0, .int .i64 0, .int .i64 0, .int .i64 0, .int .i64 0, .int .i64 0] 60))
 rw [<- hW] at s0 |-
 clear hW hrb hf
 obtain ⟨O, hO⟩ := zn2 (f.pc - 2147483648 : Int)
 have wO : IntKind.i64.wrap O = O := zq115
 have f0 := s0.out.1.cell 0 _ rfl
 have f1 := s0.out.1.cell 1 _ rfl
 have f7 := s0.out.1.cell 7 _ rfl
 have f13 := s0.out.1.cell 13 _ rfl
 have fl := s0.out.1.lt
 obtain ⟨s, hs⟩ := zn1 (f.ram)
 rw [<- hs] at zr f13
 have H13 := hide1 (fun (W : World) (h : Sa w fb rb f W) => (by rw [hs]; exact h.1.cell 13 _ rfl : W.cell? ⟨fb, 13, none⟩ = some (.string s)))
 clear hs
 subst zr
 have wO2 : IntKind.i64.wrap (O + 2) = O + 2 := zq115
 go_upto_region 2 with fail
 go_cut [38] (fun q wx => (∃ b : Bool, q = .bool b /\ Hid (b = false -> 0 <= O /\ O + 2 <= s.size)) /\ Hid (Sa w fb rb f wx))
 case first =>
  by_cases h0 : O < 0
  . have h0' : decide (O < 0) = true := by simp; omega
    exact zq395
  have h0' : decide (O < 0) = false := by simp; omega
  by_cases h1 : (s.size : Int) < O + 2
  . have h1' : decide ((s.size : Int) < O + 2) = true := by simp; omega
    exact zq395
  have h1' : decide ((s.size : Int) < O + 2) = false := by simp; omega
  as_aux_lemma =>
   go_wp2_with fail
   all_goals
    go_meet
    case rel => exact ⟨⟨_, rfl, hide1 (fun _ => by omega)⟩, s0⟩
 case rest =>
 obtain ⟨⟨b, rfl, hb⟩, s1⟩ := hcut
 clear s0 f0 f1 f7 f13 fl
 cases b
 rotate_left
 . have r0 := s1.out.2.1.cell 0 _ rfl
   have r1 := s1.out.2.1.cell 1 _ rfl
   have r2 := s1.out.2.1.cell 2 _ rfl
   have r3 := s1.out.2.1.cell 3 _ rfl
   have r4 := s1.out.2.1.cell 4 _ rfl
   have r5 := s1.out.2.1.cell 5 _ rfl
   have rf := s1.out.2.1.fro
   have rl := s1.out.2.1.lt
   as_aux_lemma =>
    go_wp2_with fail
    obtain ⟨bx, kx⟩ := s1.out.six gr (.int .i64 0) (.int .i64 0) (.int .i64 0) (.int .i64 0) (.int .i64 0) (.int .i64 0)
    exact zq396
 obtain ⟨o0, o1⟩ := hb.out rfl
 clear hb
 obtain ⟨n, hn⟩ : ∃ n : Nat, O = n := ⟨O.toNat, by omega⟩
 subst hn
 have f13 := H13.out _ s1.out
 have fl := s1.out.1.lt
 have i0 : n < s.size := by omega
 have i1 : n + 1 < s.size := by omega
 have w1 : IntKind.i64.wrap ((n : Int) + 1) = (n : Int) + 1 := zq115
 have j0 : (0 : Int) <= (n : Int) /\ (n : Int) < (s.size : Int) := by omega
 have j1 : (0 : Int) <= (n : Int) + 1 /\ (n : Int) + 1 < (s.size : Int) := by omega
 go_upto_region 4 with fail
 go_cut [4] (fun q wx => (∃ x : Int, q = .int .i64 x) /\ Hid (Sa w fb rb f wx))
 case first =>
  as_aux_lemma =>
   go_quiet (fail)
   all_goals
    go_wp2_with fail
    go_meet
    case rel => exact ⟨⟨_, rfl⟩, hide1 (s1.out.drewN _)⟩
 case rest =>
 obtain ⟨⟨x, rfl⟩, s2⟩ := hcut
 clear s1 f13 fl i0 i1 w1 j0 j1
 have f13 := H13.out _ s2.out
 have fl := s2.out.1.lt
 have w4 : IntKind.i64.wrap ((n : Int) + 4) = (n : Int) + 4 := zq115
 by_cases hx : (bits .and .i64 x 3 == 3) = true
 rotate_left
 . have hx' : (bits .and .i64 x 3 == 3) = false := by simpa using hx
   clear hx
   go_wp2_with fail
   refine (k_Decode _ _).mono ?_
   rintro o wd ⟨⟨a0, a1, a2, a3, a4, a5, e, rfl⟩, hk⟩
   have se := hide1 (s2.out.kept hk)
   have r0 := se.out.2.1.cell 0 _ rfl
   have r1 := se.out.2.1.cell 1 _ rfl
   have r2 := se.out.2.1.cell 2 _ rfl
   have r3 := se.out.2.1.cell 3 _ rfl
   have r4 := se.out.2.1.cell 4 _ rfl
   have r5 := se.out.2.1.cell 5 _ rfl
   have rf := se.out.2.1.fro
   have rl := (s2.out.kept hk).2.1.lt
   have rn : ¬ rb = wd.heap.size := by omega
   clear s2 hk
   exact zq394
 by_cases h4 : (s.size : Int) < (n : Int) + 4
 . have h4' : decide ((s.size : Int) < (n : Int) + 4) = true := by simp; omega
   clear h4
   have r0 := s2.out.2.1.cell 0 _ rfl
   have r1 := s2.out.2.1.cell 1 _ rfl
   have r2 := s2.out.2.1.cell 2 _ rfl
   have r3 := s2.out.2.1.cell 3 _ rfl
   have r4 := s2.out.2.1.cell 4 _ rfl
   have r5 := s2.out.2.1.cell 5 _ rfl
   have rf := s2.out.2.1.fro
   have rl := s2.out.2.1.lt
   as_aux_lemma =>
    go_wp2_with fail
    obtain ⟨bx, kx⟩ := s2.out.six gr (.int .i64 0) (.int .i64 0) (.int .i64 0) (.int .i64 0) (.int .i64 0) (.int .i64 0)
    exact zq396
 have h4' : decide ((s.size : Int) < (n : Int) + 4) = false := by simp; omega
 have i2 : n + 2 < s.size := by omega
 have i3 : n + 3 < s.size := by omega
 have w2 : IntKind.i64.wrap ((n : Int) + 2) = (n : Int) + 2 := zq115
 have w3 : IntKind.i64.wrap ((n : Int) + 3) = (n : Int) + 3 := zq115
 have j2 : (0 : Int) <= (n : Int) + 2 /\ (n : Int) + 2 < (s.size : Int) := by omega
 have j3 : (0 : Int) <= (n : Int) + 3 /\ (n : Int) + 3 < (s.size : Int) := by omega
 go_upto_region 8 with fail
 go_cut [4] (fun q wx => (∃ x : Int, q = .int .i64 x) /\ Hid (Sa w fb rb f wx))
 case first =>
  exact zq397
 case rest =>
 obtain ⟨⟨y, rfl⟩, s3⟩ := hcut
 clear s2
 go_wp2_with fail
 refine (k_Decode _ _).mono ?_
 rintro o wd ⟨⟨a0, a1, a2, a3, a4, a5, e, rfl⟩, hk⟩
 have se := hide1 (s3.out.kept hk)
 have r0 := se.out.2.1.cell 0 _ rfl
 have r1 := se.out.2.1.cell 1 _ rfl
 have r2 := se.out.2.1.cell 2 _ rfl
 have r3 := se.out.2.1.cell 3 _ rfl
 have r4 := se.out.2.1.cell 4 _ rfl
 have r5 := se.out.2.1.cell 5 _ rfl
 have rf := se.out.2.1.fro
 have rl := (s3.out.kept hk).2.1.lt
 have rn : ¬ rb = wd.heap.size := by omega
 clear s3 hk
 exact zq394
end
end Go.Proofs.YtmlgonbhoknoiabGreatDoor
