import Derived.Test.YtmlgonbhoknoiabGreatDoorWBG
set_option maxHeartbeats 8000000
set_option linter.all false
namespace Go.Proofs.YtmlgonbhoknoiabGreatDoor
open Go.RowKit Go.Proofs.Tryz
section
attribute [local go_sem ↓] Go.wp_at_zero Go.wp_at_succ
theorem Tryz.info4 : (prog.info? 4).map (fun i => (i.zero, i.size, i.bytes)) = some (some (.bool false), 1, 1) := by kernel_rfl
theorem mkBo (n : Nat) (hn : n <= 100000) (w : World) : (Instr.makeSlice 104 (.int .i64 (n : Int)) (.int .i64 (n : Int))).run prog w = .ok (.slice (some ⟨w.heap.size, 0, none⟩) n n) (w.alloc (.cells (madeCells #[.bool false] n) 4)) := by
 obtain ⟨i0, hi, hz0, hz1, hz2⟩ := info_parts Tryz.info4
 have h := run_makeSlice (P := prog) w 104 4 i0 (.bool false) Tryz.underlying104 hi hz0 .i64 .i64 n n (by omega) (Int.le_refl _) (by rw [hz1]; omega) (by rw [hz2]; omega) (by omega)
 rw [hz1] at h
 simpa [Value.cells] using h
theorem Bo.new (w : World) (n T : Nat) : Bo (w.alloc (.cells (madeCells #[.bool false] n) T)) w.heap.size n :=
 ⟨fun j hj => ⟨false, by simp [madeCells, hj, Nat.mod_one]⟩, fun o => by simp, by simp⟩
theorem wpAnyH_many {P : Program} {ops : Array Oper} {Q : Exit -> Act -> World -> Prop} {md : Region.Mode} {S : World -> Prop} (J : Nat -> Array Bool -> Act -> World -> Prop) (k : Nat)
 (hs : ∀ n l a w, J (n + 1) l a w -> Region.ready md ops l ≠ [] /\ ∀ i ∈ Region.ready md ops l, wpOp P ops Q i (fun a' w' => S w' /\ J n (l.setIfInBounds i true) a' w') a w)
 (h0 : ∀ l a w, J 0 l a w -> wpAnyH P md ops Q S k l a w) : ∀ n l a w, J n l a w -> wpAnyH P md ops Q S (n + k) l a w
 | 0, l, a, w, h => by rw [Nat.zero_add]; exact h0 l a w h
 | n + 1, l, a, w, h => by
  rw [Nat.succ_add]
  exact wpAnyH_all rfl (hs n l a w h).1 (fun i hi => wpOp_mono (fun a' w' h' => ⟨h'.1, wpAnyH_many J k hs h0 n _ a' w' h'.2⟩) ((hs n l a w h).2 i hi))
theorem Kept.fresh {F G : List Nat} {a b c : World} (h : Kept F a b) (k : Kept G b c) (hf : ∀ x ∈ G, a.heap.size <= x) : Kept F a c :=
 ⟨k.os.trans h.os, k.tape.trans h.tape, k.output.trans h.output, Nat.le_trans h.size k.size, fun i hi hn => (k.block i (Nat.lt_of_lt_of_le hi h.size) (fun hG => absurd (hf i hG) (by omega))).trans (h.block i hi hn)⟩
def Fl (w : World) (b n : Nat) : Prop := ∀ q, q < n -> w.cell? ⟨b, q, none⟩ = some (.bool false)
theorem Fl.kept {w w' : World} {b n : Nat} (h : Fl w b n) (hk : Kept [] w w') (hb : b < w.heap.size) : Fl w' b n := fun q hq => (hk.cell (p := ⟨b, q, none⟩) hb (by simp)).trans (h q hq)
theorem Fl.no {w : World} {b n : Nat} (h : Fl w b n) : ∀ q, q < n -> ¬ Tru w b q := fun q hq ht => by
 unfold Tru at ht; rw [h q hq] at ht; simp at ht
def Mk (w0 w : World) (b : Bool) (t : Value) (n : Nat) : Prop := b = true -> ∃ c : Nat, t = .slice (some ⟨c, 0, none⟩) n n /\ Bo w c n /\ w0.heap.size <= c /\ Fl w c n
def blk : Value -> Nat
 | .slice (some a) _ _ => a.block
 | _ => 0
theorem Mk.alloc {w0 w : World} {b : Bool} {t : Value} {n : Nat} (h : Mk w0 w b t n) (o : Obj) : Mk w0 (w.alloc o) b t n := fun e => by
 obtain ⟨c, h1, h2, h3, h4⟩ := h e
 exact ⟨c, h1, h2.more ((Kept.refl [] w).alloc o) (by simp), h3, h4.kept ((Kept.refl [] w).alloc o) h2.lt⟩
theorem Mk.new {w0 w : World} (hk : Kept [] w0 w) (n T : Nat) : Mk w0 (w.alloc (.cells (madeCells #[.bool false] n) T)) true (.slice (some ⟨w.heap.size, 0, none⟩) n n) n := fun _ => ⟨_, rfl, Bo.new w n T, hk.size, fun q hq => by simp [madeCells, hq, Nat.mod_one]⟩
theorem Mk.d {w0 w : World} {b : Bool} {t : Value} {n : Nat} (h : Mk w0 w b t n) (e : b = true) (T : Nat) : blk t ≠ blk (.slice (some ⟨w.heap.size, 0, none⟩) T T) /\ blk (.slice (some ⟨w.heap.size, 0, none⟩) T T) ≠ blk t := by
 obtain ⟨c, rfl, h2, _⟩ := h e
 have := h2.lt
 show c ≠ w.heap.size /\ w.heap.size ≠ c
 omega
def Dif (b b' : Bool) (t t' : Value) : Prop := b = true -> b' = true -> blk t ≠ blk t'
def Rt (w : World) (tb b0 b1 b2 b3 b4 n m : Nat) (f : Fc) : Prop := ∀ p : Nat, p < n -> f.satp % 4194304 = (p : Int) + 524288 -> ∃ w0, RI w0 w tb b0 b1 b2 b3 b4 n m (f.mode == 0) (f.mode == 1 && (bits .and .i64 (f.status / 262144) 1 == 1)) f.ram p 1024
def TbR (n m : Nat) (f : Fc) (o : Ending) (w : World) : Prop := ∃ tb b0 b1 b2 b3 b4 : Nat, o = .returned (.pointer (some ⟨tb, 0, none⟩)) /\ Tabs w tb b0 b1 b2 b3 b4 n m /\ Rt w tb b0 b1 b2 b3 b4 n m f
def mkAct (fb : Nat) (s : ByteArray) (n k m : Nat) (t1 t2 t3 t4 t5 : Value) : Act := { tmps := #[.pointer (some ⟨fb, 0, none⟩), undef, .pointer none, .int .i64 n, undef, undef, .pointer (some ⟨fb, 0, none⟩), .pointer (some ⟨fb, 0, none⟩), .pointer (some ⟨fb, 13, none⟩), .string s, .int .i64 s.size, .int .i64 (s.size + 4096), .int .i64 (s.size + 4096 - 1), .int .i64 n, .int .i64 n, t1, .int .i64 n, t2, .int .i64 n, t3, .int .i64 n, t4, .pointer (some ⟨fb, 0, none⟩), .pointer (some ⟨fb, 0, none⟩), .pointer (some ⟨fb, 13, none⟩), .string s, .int .i64 s.size, .int .i64 k, .int .i64 m, t5, undef, undef, undef, undef, undef, undef, undef, undef, undef, undef, undef, undef, undef, undef, undef, undef, undef, undef, undef, undef, undef, undef, undef, undef, undef, undef, undef, undef, undef, undef, undef, undef, undef, undef, undef, undef, undef, undef, undef, undef, undef, undef], defers := [] }
def mkLst (b1 b2 b3 b4 b5 : Bool) : Array Bool := #[true, b1, true, b2, true, b3, true, b4, true, true, true, true, true, true, true, b5, false, false, false]
def mkJ (w0 : World) (fb : Nat) (s : ByteArray) (n k m : Nat) (c : Nat) (l : Array Bool) (a : Act) (w : World) : Prop :=
 ∃ (b1 b2 b3 b4 b5 : Bool) (t1 t2 t3 t4 t5 : Value), c = (!b1).toNat + (!b2).toNat + (!b3).toNat + (!b4).toNat + (!b5).toNat /\ l = mkLst b1 b2 b3 b4 b5 /\ a = mkAct fb s n k m t1 t2 t3 t4 t5 /\ Mk w0 w b1 t1 n /\ Mk w0 w b2 t2 n /\ Mk w0 w b3 t3 n /\ Mk w0 w b4 t4 n /\ Mk w0 w b5 t5 m /\ (Dif b2 b3 t2 t3 /\ Dif b4 b1 t4 t1 /\ Dif b4 b2 t4 t2 /\ Dif b4 b3 t4 t3 /\ Dif b4 b5 t4 t5) /\ Kept [] w0 w
theorem mem_of_eq {i : Nat} {l l' : List Nat} (h : i ∈ l) (e : l = l') : i ∈ l' := e ▸ h
theorem ne_nil_of {l : List Nat} (h : l.isEmpty = false) : l ≠ [] := by rintro rfl; cases h
set_option maxRecDepth 100000 in
theorem k_tablesOf (fb z : Nat) (f : Fc) (hz : z <= 65536) (hf1 : FcOk f z) (w : World) (hf : Hid (BoxF w fb f.l)) : Calls prog 66 #[.pointer (some ⟨fb, 0, none⟩)] w fun o w' => TbR ((z + 4095) / 4096) (z / 4 + 1) f o w' /\ Kept [] w w' := by
 have c0 := hf.out.cell 0 _ rfl
 have c2 := hf.out.cell 2 _ rfl
 have c7 := hf.out.cell 7 _ rfl
 have c13 := hf.out.cell 13 _ rfl
 have cl := hf.out.lt
 have zr := hf1.ram
 have sa := hf1.satp
 obtain ⟨s, hs⟩ := zn1 (f.ram)
 rw [<- hs] at zr c13
 obtain ⟨n, hn⟩ := zn1 ((z + 4095) / 4096 : Nat)
 obtain ⟨m, hm⟩ := zn1 (z / 4 + 1 : Nat)
 rw [<- hn, <- hm]
 have mk1 := mkBo n (by omega)
 have mk2 := mkBo m (by omega)
 have q1 : Int.tdiv ((s.size : Int) + 4095) 4096 = n := zq141
 have q2 : Int.tdiv ((s.size : Int) + 4096 - 1) 4096 = n := zq141
 have q3 : Int.tdiv (s.size : Int) 4 + 1 = m := zq141
 obtain ⟨k, q4⟩ : ∃ k : Nat, Int.tdiv (s.size : Int) 4 = k := ⟨s.size / 4, by rw [Int.tdiv_eq_ediv_of_nonneg (by omega)]; omega⟩
 have q5 : (k : Int) + 1 = m := by omega
 have hs6 : s.size <= 65536 := by omega
 have q6 : k <= 100000 := by omega
 have q7 : n <= 100 := by omega
 have q8 : m <= 100000 := by omega
 have KC : ∀ w', Kept [] w w' -> w'.cell? ⟨fb, 13, none⟩ = some (.string s) := fun w' h => (h.cell cl (by simp)).trans c13
 have u1 : IntKind.i64.wrap (k : Int) = k := zq115
 have u2 : IntKind.i64.wrap ((k : Int) + 1) = m := by rw [wrap_in _ (by omega)]; exact q5
 have u3 : IntKind.i64.wrap (m : Int) = m := zq115
 have HN := hide1 hn
 have HM := hide1 hm
 have HS := hide1 hs
 have ZR := hide1 zr
 clear hn hm hs q3 zr hz hf1
 go_enter func66, ntmps66
 go_upto_region 2 with fail
 go_cut [4] (fun q wx => (∃ tb b0 b1 b2 b3 b4 : Nat, q = .pointer (some ⟨tb, 0, none⟩) /\ Hid (Tabs wx tb b0 b1 b2 b3 b4 n m) /\ Hid (Fl wx b4 n) /\ Hid (∀ x ∈ [b0, b1, b2, b3, b4], w.heap.size <= x)) /\ Hid (Kept [] w wx))
 case first =>
  refine wp_region_held_drew (S := fun w' => w'.cell? ⟨fb, 13, none⟩ = some (.string s)) (by kernel_rfl) (KC _ (Kept.refl _ _).drew) (fun hHeld => ?_)
  refine tk 0 14 (.int .i64 n) hHeld ?_
  refine tk 2 16 (.int .i64 n) hHeld ?_
  refine tk 4 18 (.int .i64 n) hHeld ?_
  refine tk 6 20 (.int .i64 n) hHeld ?_
  refine tk 8 22 (.pointer (some ⟨fb, 0, none⟩)) hHeld ?_
  refine tk 9 23 (.pointer (some ⟨fb, 0, none⟩)) hHeld ?_
  refine tk 10 24 (.pointer (some ⟨fb, 13, none⟩)) hHeld ?_
  refine tk 11 25 (.string s) hHeld ?_
  refine tk 12 26 (.int .i64 s.size) hHeld ?_
  refine tk 13 27 (.int .i64 k) hHeld ?_
  refine tk 14 28 (.int .i64 m) hHeld ?_
  refine wpAnyH_many (mkJ w fb s n k m) 3 ?_ ?_ 5 _ _ _ ?_
  . rintro c l a w' ⟨b1, b2, b3, b4, b5, t1, t2, t3, t4, t5, hc, rfl, rfl, m1, m2, m3, m4, m5, nd, hk⟩
    refine ⟨?_, ?_⟩
    . cases b1 <;> cases b2 <;> cases b3 <;> cases b4 <;> cases b5 <;> first | exact ne_nil_of (by kernel_rfl) | (exact absurd hc (by simp))
    . intro i hi
      have hr : i ∈ (if b1 then [] else [1]) ++ (if b2 then [] else [3]) ++ (if b3 then [] else [5]) ++ (if b4 then [] else [7]) ++ (if b5 then [] else [15]) ++ (if b1 && b2 && b3 && b4 && b5 then [16] else []) := by
       refine mem_of_eq hi ?_
       clear hi hc nd m1 m2 m3 m4 m5
       cases b1 <;> cases b2 <;> cases b3 <;> cases b4 <;> cases b5 <;> kernel_rfl
      clear hi
      simp only [List.mem_append, List.mem_ite_nil_left, List.mem_singleton, List.mem_ite_nil_right, Bool.and_eq_true, Bool.not_eq_true] at hr
      rcases hr with ((((⟨rfl, rfl⟩ | ⟨rfl, rfl⟩) | ⟨rfl, rfl⟩) | ⟨rfl, rfl⟩) | ⟨rfl, rfl⟩) | ⟨⟨⟨⟨⟨rfl, rfl⟩, rfl⟩, rfl⟩, rfl⟩, rfl⟩
      . refine wpOp_step (o := ⟨some 15, .makeSlice 104 (.tmp 14) (.tmp 14), _, _, _, _⟩) rfl (fun K'' hK'' => ?_)
        unfold mkAct
        go_simp
        exact hK'' _ _ ⟨KC _ (hk.alloc _), true, b2, b3, b4, b5, _, t2, t3, t4, t5, by simp at hc |-; omega, rfl, rfl, (Mk.new hk _ _), (m2.alloc _), (m3.alloc _), (m4.alloc _), (m5.alloc _), ⟨nd.1, fun e _ => (m4.d e _).1, nd.2.2⟩, hk.alloc _⟩
      . refine wpOp_step (o := ⟨some 17, .makeSlice 104 (.tmp 16) (.tmp 16), _, _, _, _⟩) rfl (fun K'' hK'' => ?_)
        unfold mkAct
        go_simp
        exact hK'' _ _ ⟨KC _ (hk.alloc _), b1, true, b3, b4, b5, t1, _, t3, t4, t5, by simp at hc |-; omega, rfl, rfl, (m1.alloc _), (Mk.new hk _ _), (m3.alloc _), (m4.alloc _), (m5.alloc _), ⟨fun _ e => (m3.d e _).2, nd.2.1, fun e _ => (m4.d e _).1, nd.2.2.2⟩, hk.alloc _⟩
      . refine wpOp_step (o := ⟨some 19, .makeSlice 104 (.tmp 18) (.tmp 18), _, _, _, _⟩) rfl (fun K'' hK'' => ?_)
        unfold mkAct
        go_simp
        exact hK'' _ _ ⟨KC _ (hk.alloc _), b1, b2, true, b4, b5, t1, t2, _, t4, t5, by simp at hc |-; omega, rfl, rfl, (m1.alloc _), (m2.alloc _), (Mk.new hk _ _), (m4.alloc _), (m5.alloc _), ⟨fun e _ => (m2.d e _).1, nd.2.1, nd.2.2.1, fun e _ => (m4.d e _).1, nd.2.2.2.2⟩, hk.alloc _⟩
      . refine wpOp_step (o := ⟨some 21, .makeSlice 104 (.tmp 20) (.tmp 20), _, _, _, _⟩) rfl (fun K'' hK'' => ?_)
        unfold mkAct
        go_simp
        exact hK'' _ _ ⟨KC _ (hk.alloc _), b1, b2, b3, true, b5, t1, t2, t3, _, t5, by simp at hc |-; omega, rfl, rfl, (m1.alloc _), (m2.alloc _), (m3.alloc _), (Mk.new hk _ _), (m5.alloc _), ⟨nd.1, fun _ e => (m1.d e _).2, fun _ e => (m2.d e _).2, fun _ e => (m3.d e _).2, fun _ e => (m5.d e _).2⟩, hk.alloc _⟩
      . refine wpOp_step (o := ⟨some 29, .makeSlice 104 (.tmp 28) (.tmp 28), _, _, _, _⟩) rfl (fun K'' hK'' => ?_)
        unfold mkAct
        go_simp
        exact hK'' _ _ ⟨KC _ (hk.alloc _), b1, b2, b3, b4, true, t1, t2, t3, t4, _, by simp at hc |-; omega, rfl, rfl, (m1.alloc _), (m2.alloc _), (m3.alloc _), (m4.alloc _), (Mk.new hk _ _), ⟨nd.1, nd.2.1, nd.2.2.1, nd.2.2.2.1, fun e _ => (m4.d e _).1⟩, hk.alloc _⟩
      . exact absurd hc (by simp)
  . rintro l a w' ⟨b1, b2, b3, b4, b5, t1, t2, t3, t4, t5, hc, rfl, rfl, m1, m2, m3, m4, m5, nd, hk⟩
    cases b1 <;> cases b2 <;> cases b3 <;> cases b4 <;> cases b5 <;> first | (exfalso; revert hc; simp; done) | skip
    obtain ⟨c1, rfl, o1, g1, l1⟩ := m1 rfl
    obtain ⟨c2, rfl, o2, g2, l2⟩ := m2 rfl
    obtain ⟨c3, rfl, o3, g3, l3⟩ := m3 rfl
    obtain ⟨c4, rfl, o4, g4, l4⟩ := m4 rfl
    obtain ⟨c5, rfl, o5, g5, l5⟩ := m5 rfl
    have hne : ¬ c2 = c3 := nd.1 rfl rfl
    have hn4 : ¬ c4 ∈ [c1, c2, c3, c5] := by
     have q1 : c4 ≠ c1 := nd.2.1 rfl rfl
     have q2 : c4 ≠ c2 := nd.2.2.1 rfl rfl
     have q3 : c4 ≠ c3 := nd.2.2.2.1 rfl rfl
     have q5 : c4 ≠ c5 := nd.2.2.2.2 rfl rfl
     simp [q1, q2, q3, q5]
    have hS : w'.cell? ⟨fb, 13, none⟩ = some (.string s) := KC _ hk
    clear nd m1 m2 m3 m4 m5 hc hHeld
    unfold mkAct mkLst
    refine tk 16 30 (.agg #[.slice (some ⟨c1, 0, none⟩) n n, .slice (some ⟨c2, 0, none⟩) n n, .slice (some ⟨c3, 0, none⟩) n n, .slice (some ⟨c5, 0, none⟩) m m, .slice (some ⟨c4, 0, none⟩) n n]) hS ?_
    refine wpAnyH_ready (rs := [17]) (by kernel_rfl) (by simp) ?_
    refine AllReadyH.cons (o := ⟨some 31, .box 106 (.tmp 30), _, _, _, _⟩) rfl (fun K'' hK'' => ?_) AllReadyH.nil
    go_simp
    refine hK''.out _ _ (KC _ (hk.alloc _)) (fun hHeld => ?_)
    simp only [Act.put, List.setIfInBounds_toArray, List.set_cons_zero, List.set_cons_succ]
    refine tk 18 4 (.pointer (some ⟨w'.heap.size, 0, none⟩)) hHeld ?_
    refine wpAnyH_done (by kernel_rfl) ?_ _
    go_wp2_with fail
    go_meet
    case rel =>
     have K1 := (Kept.refl [] w').alloc (.cells #[.slice (some ⟨c1, 0, none⟩) n n, .slice (some ⟨c2, 0, none⟩) n n, .slice (some ⟨c3, 0, none⟩) n n, .slice (some ⟨c5, 0, none⟩) m m, .slice (some ⟨c4, 0, none⟩) n n] 106)
     exact ⟨⟨_, c1, c2, c3, c5, c4, rfl, hide1 ⟨BoxF.new w' _ _, o1.more K1 (by simp), o2.more K1 (by simp), o3.more K1 (by simp), o5.more K1 (by simp), o4.more K1 (by simp), by simp only [List.mem_cons, List.not_mem_nil, or_false, not_or]; refine ⟨?_, ?_, ?_, ?_, ?_⟩ <;> intro e <;> first | exact absurd o1.lt (by omega) | exact absurd o2.lt (by omega) | exact absurd o3.lt (by omega) | exact absurd o4.lt (by omega) | exact absurd o5.lt (by omega), hne, hn4⟩, hide1 (l4.kept K1 o4.lt), hide1 (by simp only [List.mem_cons, List.not_mem_nil, or_false]; rintro x (rfl | rfl | rfl | rfl | rfl) <;> assumption)⟩, hide1 (hk.alloc _)⟩
  . exact ⟨false, false, false, false, false, undef, undef, undef, undef, undef, rfl, rfl, rfl, zq518, zq518, zq518, zq518, zq518, ⟨zq518, zq518, zq518, zq518, zq518⟩, (Kept.refl _ _).drew⟩
 case rest =>
 obtain ⟨⟨tb, b0, b1, b2, b3, b4, rfl, ht, hfl, hfr⟩, hk⟩ := hcut
 have d0 := (hf.out.kept hk.out).cell 0 _ rfl
 have d2 := (hf.out.kept hk.out).cell 2 _ rfl
 have d7 := (hf.out.kept hk.out).cell 7 _ rfl
 have d13 := KC _ hk.out
 have dl := Nat.lt_of_lt_of_le cl hk.out.size
 have RR := hide1 (fun (p : Nat) (hp : p < n) (us su : Bool) (W : World) (hW : Hid (Tabs W tb b0 b1 b2 b3 b4 n m)) (hl : Hid (∀ q, q < n -> ¬ Tru W b4 q)) => k_readR tb b0 b1 b2 b3 b4 n m p s hs6 (hide1 (by rw [ZR.out]; exact HN.out)) (hide1 (by rw [ZR.out]; exact HM.out)) hp us su W hW hl)
 obtain ⟨A, ab, hA⟩ : ∃ A : Nat, A < 4294967296 /\ bits .and .i64 f.satp 4194303 = (A : Int) := ⟨_, Nat.lt_of_le_of_lt Nat.and_le_right (by omega), and_any f.satp 4194303 (by omega)⟩
 have wA : IntKind.i64.wrap ((A : Int) - 524288) = (A : Int) - 524288 := zq115
 have AE : Hid (f.satp % 4194304 = (A : Int)) := hide1 (by
  obtain ⟨S, hS⟩ : ∃ S : Nat, f.satp = S := ⟨f.satp.toNat, by omega⟩
  rw [<- hA, hS]
  have h1 : bits .and .i64 (S : Int) 4194303 = ((S &&& 4194303 : Nat) : Int) := b_and S 4194303 (by omega) (by decide)
  have h2 : S &&& 4194303 = S % 4194304 := Nat.and_two_pow_sub_one_eq_mod S 22
  rw [h1, h2]; rfl)
 clear hf KC c0 c2 c7 c13 mk1 mk2 u1 u2 u3 q1 q2 q4 q5 q6 q8
 by_cases h0 : 0 <= (A : Int) - 524288
 rotate_left
 . have h0' : decide (0 <= (A : Int) - 524288) = false := by simp; omega
   go_wp2_with fail
   go_ret
   exact ⟨⟨tb, b0, b1, b2, b3, b4, rfl, ht.out, fun p hp e => by rw [AE.out] at e; omega⟩, hk.out⟩
 obtain ⟨p, hp⟩ : ∃ p : Nat, (A : Int) - 524288 = p := ⟨((A : Int) - 524288).toNat, by omega⟩
 by_cases h1 : p < n
 rotate_left
 . have h1' : decide ((p : Int) < (n : Int)) = false := by simp; omega
   go_wp2_with fail
   go_ret
   exact ⟨⟨tb, b0, b1, b2, b3, b4, rfl, ht.out, fun p' hp' e => by rw [AE.out] at e; omega⟩, hk.out⟩
 have h1' : decide ((p : Int) < (n : Int)) = true := by simp; omega
 clear h0 ab sa
 go_upto_region 5 with fail
 have nb : ¬ fb ∈ [b0, b1, b2, b3, b4] := fun h => absurd (hfr.out fb h) (by omega)
 have SS := hide1 (fun (W : World) (hW : Kept [] wc W) => (⟨(hW.cell (p := ⟨fb, 0, none⟩) dl (by simp)).trans d0, (hW.cell (p := ⟨fb, 2, none⟩) dl (by simp)).trans d2, (hW.cell (p := ⟨fb, 13, none⟩) dl (by simp)).trans d13⟩ : W.cell? ⟨fb, 0, none⟩ = some (.int .i64 f.mode) /\ W.cell? ⟨fb, 2, none⟩ = some (.int .i64 f.status) /\ W.cell? ⟨fb, 13, none⟩ = some (.string s)))
 have ST := hide1 (fun (W : World) (hW : Kept [b0, b1, b2, b3, b4] wc W) => (⟨(hW.cell (p := ⟨fb, 0, none⟩) dl nb).trans d0, (hW.cell (p := ⟨fb, 2, none⟩) dl nb).trans d2, (hW.cell (p := ⟨fb, 13, none⟩) dl nb).trans d13⟩ : W.cell? ⟨fb, 0, none⟩ = some (.int .i64 f.mode) /\ W.cell? ⟨fb, 2, none⟩ = some (.int .i64 f.status) /\ W.cell? ⟨fb, 13, none⟩ = some (.string s)))
 clear d0 d2 d13
 rcases beqC f.mode 1 with ⟨qa, qb⟩ | ⟨qa, qb⟩
 . refine wp_region_held_drew (S := fun W => W.cell? ⟨fb, 0, none⟩ = some (.int .i64 f.mode) /\ W.cell? ⟨fb, 2, none⟩ = some (.int .i64 f.status) /\ W.cell? ⟨fb, 13, none⟩ = some (.string s)) (by kernel_rfl) (SS.out _ (Kept.refl _ _).drew) (fun hHeld => ?_)
   refine tk 0 45 (.pointer (some ⟨tb, 0, none⟩)) hHeld ?_
   refine tk 1 46 (.pointer (some ⟨fb, 0, none⟩)) hHeld ?_
   refine tk 2 47 (.pointer (some ⟨fb, 0, none⟩)) hHeld ?_
   refine tk 3 48 (.pointer (some ⟨fb, 13, none⟩)) hHeld ?_
   refine tk 4 49 (.string s) hHeld ?_
   refine tk 5 50 (.int .i64 p) hHeld ?_
   refine tk 6 51 (.pointer (some ⟨fb, 0, none⟩)) hHeld ?_
   refine tk 7 52 (.pointer (some ⟨fb, 0, none⟩)) hHeld ?_
   refine tk 8 53 (.pointer (some ⟨fb, 0, none⟩)) hHeld ?_
   refine tk 9 54 (.int .i64 f.mode) hHeld ?_
   refine tk 10 55 (.bool (f.mode == 0)) hHeld ?_
   refine tk 11 56 (.pointer (some ⟨fb, 0, none⟩)) hHeld ?_
   refine tk 12 57 (.pointer (some ⟨fb, 0, none⟩)) hHeld ?_
   refine tk 13 58 (.pointer (some ⟨fb, 0, none⟩)) hHeld ?_
   refine tk 14 59 (.int .i64 f.mode) hHeld ?_
   refine tk 15 60 (.bool true) hHeld ?_
   refine tk 16 61 (.bool true) hHeld ?_
   refine tk 17 62 (.pointer (some ⟨fb, 0, none⟩)) hHeld ?_
   refine tk 18 63 (.pointer (some ⟨fb, 0, none⟩)) hHeld ?_
   refine tk 19 64 (.pointer (some ⟨fb, 2, none⟩)) hHeld ?_
   refine tk 20 65 (.int .i64 f.status) hHeld ?_
   refine tk 21 66 (.int .i64 (f.status / 262144)) hHeld ?_
   refine tk 22 67 (.int .i64 (bits .and .i64 (f.status / 262144) 1)) hHeld ?_
   refine tk 23 68 (.bool (bits .and .i64 (f.status / 262144) 1 == 1)) hHeld ?_
   refine tk 24 69 (.bool (bits .and .i64 (f.status / 262144) 1 == 1)) hHeld ?_
   exact zq402
 . refine wp_region_held_drew (S := fun W => W.cell? ⟨fb, 0, none⟩ = some (.int .i64 f.mode) /\ W.cell? ⟨fb, 2, none⟩ = some (.int .i64 f.status) /\ W.cell? ⟨fb, 13, none⟩ = some (.string s)) (by kernel_rfl) (SS.out _ (Kept.refl _ _).drew) (fun hHeld => ?_)
   refine tk 0 45 (.pointer (some ⟨tb, 0, none⟩)) hHeld ?_
   refine tk 1 46 (.pointer (some ⟨fb, 0, none⟩)) hHeld ?_
   refine tk 2 47 (.pointer (some ⟨fb, 0, none⟩)) hHeld ?_
   refine tk 3 48 (.pointer (some ⟨fb, 13, none⟩)) hHeld ?_
   refine tk 4 49 (.string s) hHeld ?_
   refine tk 5 50 (.int .i64 p) hHeld ?_
   refine tk 6 51 (.pointer (some ⟨fb, 0, none⟩)) hHeld ?_
   refine tk 7 52 (.pointer (some ⟨fb, 0, none⟩)) hHeld ?_
   refine tk 8 53 (.pointer (some ⟨fb, 0, none⟩)) hHeld ?_
   refine tk 9 54 (.int .i64 f.mode) hHeld ?_
   refine tk 10 55 (.bool (f.mode == 0)) hHeld ?_
   refine tk 11 56 (.pointer (some ⟨fb, 0, none⟩)) hHeld ?_
   refine tk 12 57 (.pointer (some ⟨fb, 0, none⟩)) hHeld ?_
   refine tk 13 58 (.pointer (some ⟨fb, 0, none⟩)) hHeld ?_
   refine tk 14 59 (.int .i64 f.mode) hHeld ?_
   refine tk 15 60 (.bool false) hHeld ?_
   refine tk 16 61 (.bool false) hHeld ?_
   refine wpAnyH_take (i := 17) (oi := ⟨some 62, _, _, _, _, _⟩) (v := undef) rfl (by kernel_rfl) (by kernel_rfl) (by kernel_rfl) (fun _ _ _ h => h) (Or.inr ⟨by kernel_rfl, rfl⟩) hHeld ?_
   simp only [Act.put, List.setIfInBounds_toArray, List.set_cons_zero, List.set_cons_succ]
   refine wpAnyH_take (i := 18) (oi := ⟨some 63, _, _, _, _, _⟩) (v := undef) rfl (by kernel_rfl) (by kernel_rfl) (by kernel_rfl) (fun _ _ _ h => h) (Or.inr ⟨by kernel_rfl, rfl⟩) hHeld ?_
   simp only [Act.put, List.setIfInBounds_toArray, List.set_cons_zero, List.set_cons_succ]
   refine wpAnyH_take (i := 19) (oi := ⟨some 64, _, _, _, _, _⟩) (v := undef) rfl (by kernel_rfl) (by kernel_rfl) (by kernel_rfl) (fun _ _ _ h => h) (Or.inr ⟨by kernel_rfl, rfl⟩) hHeld ?_
   simp only [Act.put, List.setIfInBounds_toArray, List.set_cons_zero, List.set_cons_succ]
   refine wpAnyH_take (i := 20) (oi := ⟨some 65, _, _, _, _, _⟩) (v := undef) rfl (by kernel_rfl) (by kernel_rfl) (by kernel_rfl) (fun _ _ _ h => h) (Or.inr ⟨by kernel_rfl, rfl⟩) hHeld ?_
   simp only [Act.put, List.setIfInBounds_toArray, List.set_cons_zero, List.set_cons_succ]
   refine wpAnyH_take (i := 21) (oi := ⟨some 66, _, _, _, _, _⟩) (v := undef) rfl (by kernel_rfl) (by kernel_rfl) (by kernel_rfl) (fun _ _ _ h => h) (Or.inr ⟨by kernel_rfl, rfl⟩) hHeld ?_
   simp only [Act.put, List.setIfInBounds_toArray, List.set_cons_zero, List.set_cons_succ]
   refine wpAnyH_take (i := 22) (oi := ⟨some 67, _, _, _, _, _⟩) (v := undef) rfl (by kernel_rfl) (by kernel_rfl) (by kernel_rfl) (fun _ _ _ h => h) (Or.inr ⟨by kernel_rfl, rfl⟩) hHeld ?_
   simp only [Act.put, List.setIfInBounds_toArray, List.set_cons_zero, List.set_cons_succ]
   refine wpAnyH_take (i := 23) (oi := ⟨some 68, _, _, _, _, _⟩) (v := undef) rfl (by kernel_rfl) (by kernel_rfl) (by kernel_rfl) (fun _ _ _ h => h) (Or.inr ⟨by kernel_rfl, rfl⟩) hHeld ?_
   simp only [Act.put, List.setIfInBounds_toArray, List.set_cons_zero, List.set_cons_succ]
   refine tk 24 69 (.bool false) hHeld ?_
   exact zq402
end
end Go.Proofs.YtmlgonbhoknoiabGreatDoor
