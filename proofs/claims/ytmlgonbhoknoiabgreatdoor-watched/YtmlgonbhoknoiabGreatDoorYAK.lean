import Derived.Test.YtmlgonbhoknoiabGreatDoorYAJ
set_option maxHeartbeats 8000000
set_option linter.all false
namespace Go.Proofs.YtmlgonbhoknoiabGreatDoor
open Go.RowKit Go.Proofs.Tryz
namespace Byt
def nmL (op : Nat) : List UInt8 := (Nm.name op).data.toList
def wrdFrom (t : List UInt8) : Nat -> Nat -> Nat × Nat
 | 0, _ => (0, 0)
 | f + 1, op => if t = nmL op then (op, 4) else if t = 99 :: 46 :: nmL op then (op, 2) else wrdFrom t f (op + 1)
def wrd (t : List UInt8) : Nat × Nat := if t = nmL 71 then (71, 4) else if t = nmL 72 then (72, 2) else wrdFrom t 70 1
end Byt
theorem nm_size : ((List.range 73).all fun n => decide ((Nm.name n).size <= 20)) = true := by decide +kernel
theorem nm_sz (n : Nat) (h : n <= 72) : (Nm.name n).size <= 20 := by
 have := List.all_eq_true.1 nm_size n (by simp; omega)
 rwa [decide_eq_true_eq] at this
theorem mk_list (s : ByteArray) : (⟨s.data.toList.toArray⟩ : ByteArray) = s := by cases s; simp
theorem short_add (n : Nat) (h : n <= 72) (w : World) : (Op.stringOp .add ⟨#[99, 46]⟩ (Nm.name n)).run prog w = .ok (Byt.strV (99 :: 46 :: Byt.nmL n)) w := by
 refine add_str (a := ⟨#[99, 46]⟩) (b := Nm.name n) (c := ⟨(99 :: 46 :: Byt.nmL n).toArray⟩) ?_ (by have := nm_sz n h; have h2 : (⟨#[99, 46]⟩ : ByteArray).size = 2 := rfl; rw [h2]; omega) w
 have h := mk_app [99, 46] (Nm.name n).data.toList
 rw [mk_list] at h
 exact h
theorem a_shortName (n : Nat) (hn : n <= 72) (w : World) :
 CS 214 #[.int .i64 n] (Byt.strV (99 :: 46 :: Byt.nmL n)) w := by
 obtain ⟨D, hD⟩ := zn1 (Nm.name n)
 have hadd := short_add n hn
 rw [<- hD] at hadd
 have HD := hide1 hD
 clear hD
 go_enter func214, ntmps214
 go_wp2_with (go_at_call 212; refine (a_Name n _).mono ?_; rintro e w' ⟨rfl, rfl⟩; rw [<- HD.out])
 exact zq196
theorem eq_nm (s X : ByteArray) : (s.toList == X.toList) = decide (s.data.toList = X.data.toList) := by
 rw [Lib.toList_data, Lib.toList_data, Bool.eq_iff_iff]; simp
theorem a_readWord (s : ByteArray) (w : World) :
 CS 221 #[.string s] (.tuple #[.int .i64 (Byt.wrd s.data.toList).1, .int .i64 (Byt.wrd s.data.toList).2]) w := by
 obtain ⟨T, hT⟩ := zn1 (Byt.wrd s.data.toList)
 rw [<- hT]
 unfold Byt.wrd at hT
 obtain ⟨W1, hW1⟩ := zn1 (Nm.name 71)
 obtain ⟨W2, hW2⟩ := zn1 (Nm.name 72)
 have he1 := eq_nm s W1
 have he2 := eq_nm s W2
 rw [hW1] at he1
 rw [hW2] at he2
 change _ = decide (s.data.toList = Byt.nmL 71) at he1
 change _ = decide (s.data.toList = Byt.nmL 72) at he2
 rw [<- hW1] at he1
 rw [<- hW2] at he2
 have H1 := hide1 hW1
 have H2 := hide1 hW2
 clear hW1 hW2
 by_cases c1 : s.data.toList = Byt.nmL 71
 . rw [if_pos c1] at hT
   rw [decide_eq_true c1] at he1
   subst hT
   clear c1 he2
   go_enter func221, ntmps221
   go_wp2_with (go_at_call 212; refine (a_Name 71 _).mono ?_; rintro e w' ⟨rfl, rfl⟩; rw [<- H1.out])
   exact zq324
 . rw [if_neg c1] at hT
   rw [decide_eq_false c1] at he1
   by_cases c2 : s.data.toList = Byt.nmL 72
   . rw [if_pos c2] at hT
     rw [decide_eq_true c2] at he2
     subst hT
     clear c1 c2
     go_enter func221, ntmps221
     go_wp2_with (go_at_call 212; refine (a_Name _ _).mono ?_; rintro e w' ⟨rfl, rfl⟩; first | rw [<- H1.out] | rw [<- H2.out])
     exact zq324
   . rw [if_neg c2] at hT
     rw [decide_eq_false c2] at he2
     have HT := hide1 hT
     clear c1 c2 hT
     go_enter func221, ntmps221
     go_wp2_with (go_at_call 212; refine (a_Name _ _).mono ?_; rintro e w' ⟨rfl, rfl⟩; first | rw [<- H1.out] | rw [<- H2.out])
     clear he1 he2 H1 H2
     go_loop [4] (fun d => ∃ i : Nat, 1 <= i /\ i <= 71 /\ d = .int .i64 i /\ Hid (T = Byt.wrdFrom s.data.toList (71 - i) i)) (fun d => 71 - (intOf d).toNat)
     case atStart => exact ⟨1, by omega, by omega, rfl, HT⟩
     case round =>
      obtain ⟨i, hi1, hi0, rfl, hh⟩ := hrel
      by_cases hi : i < 71
      . obtain ⟨X, hX⟩ := zn1 (Nm.name i : ByteArray)
        obtain ⟨Y, hY⟩ := zn1 (⟨(99 :: 46 :: Byt.nmL i).toArray⟩ : ByteArray)
        have hY' : Byt.strV (99 :: 46 :: Byt.nmL i) = .string Y := by rw [hY]; rfl
        have he1 : (s.toList == X.toList) = decide (s.data.toList = Byt.nmL i) := by rw [hX]; exact eq_nm s _
        have he2 := eq_str s Y _ hY
        have hv : T = if s.data.toList = Byt.nmL i then (i, 4) else if s.data.toList = 99 :: 46 :: Byt.nmL i then (i, 2) else Byt.wrdFrom s.data.toList (71 - (i + 1)) (i + 1) := by
         rw [hh.out, show 71 - i = (71 - (i + 1)) + 1 by omega]; rfl
        have HX := hide1 hX
        have HY := hide1 hY'
        clear hX hY hY'
        by_cases c1 : s.data.toList = Byt.nmL i
        . rw [if_pos c1] at hv
          rw [decide_eq_true c1] at he1
          have HV := hide1 hv
          clear hv hh HT he2 c1
          go_wp2_with (go_at_call 212; refine (a_Name i _).mono ?_; rintro e w' ⟨rfl, rfl⟩; rw [<- HX.out])
          exact zq347
        . rw [if_neg c1] at hv
          rw [decide_eq_false c1] at he1
          by_cases c2 : s.data.toList = 99 :: 46 :: Byt.nmL i
          . rw [if_pos c2] at hv
            rw [decide_eq_true c2] at he2
            have HV := hide1 hv
            clear hv hh HT c1 c2
            go_wp2_with (first | (go_at_call 212; refine (a_Name i _).mono ?_; rintro e w' ⟨rfl, rfl⟩; rw [<- HX.out]) | (go_at_call 214; refine (a_shortName i (by omega) _).mono ?_; rintro e w' ⟨rfl, rfl⟩; rw [HY.out]))
            exact zq347
          . rw [if_neg c2] at hv
            rw [decide_eq_false c2] at he2
            have HV := hide1 hv
            clear hv hh HT c1 c2
            go_wp2_with (first | (go_at_call 212; refine (a_Name i _).mono ?_; rintro e w' ⟨rfl, rfl⟩; rw [<- HX.out]) | (go_at_call 214; refine (a_shortName i (by omega) _).mono ?_; rintro e w' ⟨rfl, rfl⟩; rw [HY.out]))
            go_round
            case rel => exact ⟨i + 1, by omega, by omega, by go_num, HV⟩
            case measure => exact zq191
      . obtain rfl : i = 71 := by omega
        have hT : Hid (T = (0, 0)) := hh
        clear hh HT
        go_wp2
        go_ret2
        exact zq348
theorem fields_ins : (prog.fieldsOf 60).toList.map (fun f => (f.name, f.type, f.offset)) = [("Op", 3, 0), ("Rd", 3, 1), ("Rs1", 3, 2), ("Rs2", 3, 3), ("Imm", 3, 4), ("Len", 3, 5)] := by kernel_rfl
theorem und_ins : prog.underlying 60 = some (.struct (prog.fieldsOf 60)) := by kernel_rfl
theorem stood_ins : prog.stoodInHeld 60 = false := by kernel_rfl
theorem eqFields_ins (d : Nat) (a0 a1 a2 a3 a4 a5 b0 b1 b2 b3 b4 b5 : Int) (fs : List Field) (h : fs.map (fun f => (f.name, f.type, f.offset)) = [("Op", 3, 0), ("Rd", 3, 1), ("Rs1", 3, 2), ("Rs2", 3, 3), ("Imm", 3, 4), ("Len", 3, 5)]) (w : World) :
 (Op.eqFields (d + 1) #[.int .i64 a0, .int .i64 a1, .int .i64 a2, .int .i64 a3, .int .i64 a4, .int .i64 a5] #[.int .i64 b0, .int .i64 b1, .int .i64 b2, .int .i64 b3, .int .i64 b4, .int .i64 b5] fs).run prog w =
   .ok (a0 == b0 && a1 == b1 && a2 == b2 && a3 == b3 && a4 == b4 && a5 == b5) w := by
 rcases fs with _ | ⟨f0, fs⟩
 . simp at h
 rcases fs with _ | ⟨f1, fs⟩
 . simp at h
 rcases fs with _ | ⟨f2, fs⟩
 . simp at h
 rcases fs with _ | ⟨f3, fs⟩
 . simp at h
 rcases fs with _ | ⟨f4, fs⟩
 . simp at h
 rcases fs with _ | ⟨f5, fs⟩
 . simp at h
 rcases fs with _ | ⟨f6, fs⟩
 . simp only [List.map_cons, List.map_nil, List.cons.injEq, Prod.mk.injEq, and_true] at h
   obtain ⟨⟨n0, t0, o0⟩, ⟨n1, t1, o1⟩, ⟨n2, t2, o2⟩, ⟨n3, t3, o3⟩, ⟨n4, t4, o4⟩, n5, t5, o5⟩ := h
   simp [Op.eqFields, n0, n1, n2, n3, n4, n5, t0, t1, t2, t3, t4, t5, o0, o1, o2, o3, o4, o5, go_sem, part]
   by_cases h0 : a0 = b0 <;> by_cases h1 : a1 = b1 <;> by_cases h2 : a2 = b2 <;> by_cases h3 : a3 = b3 <;> by_cases h4 : a4 = b4 <;> by_cases h5 : a5 = b5 <;> simp [h0, h1, h2, h3, h4, h5]
 . simp at h
theorem eql_ins (a0 a1 a2 a3 a4 a5 b0 b1 b2 b3 b4 b5 : Int) (w : World) :
 (binOp .eql 60 (.agg #[.int .i64 a0, .int .i64 a1, .int .i64 a2, .int .i64 a3, .int .i64 a4, .int .i64 a5]) (.agg #[.int .i64 b0, .int .i64 b1, .int .i64 b2, .int .i64 b3, .int .i64 b4, .int .i64 b5])).run prog w =
   .ok (.bool (a0 == b0 && a1 == b1 && a2 == b2 && a3 == b3 && a4 == b4 && a5 == b5)) w := by
 rw [run_eql_struct, show (10000 : Nat) = 9998 + 1 + 1 from rfl, run_equalIn_agg w (9998 + 1) 60 _ _ und_ins stood_ins, eqFields_ins 9998 _ _ _ _ _ _ _ _ _ _ _ _ _ fields_ins]
 rfl
theorem scan_someE {f : Nat -> Option Ins} {j : Ins} : ∀ (m n : Nat), scan f n m = some j -> ∃ k, n <= k /\ k < n + m /\ f k = some j
 | 0, _, h => by cases h
 | m + 1, n, h => by
  rw [scan_step] at h
  cases hf : f n with
  | some i => rw [hf] at h; simp at h; exact ⟨n, by omega, by omega, by rw [hf, h]⟩
  | none =>
   rw [hf] at h
   obtain ⟨k, h1, h2, h3⟩ := scan_someE m (n + 1) h
   exact ⟨k, by omega, by omega, h3⟩
structure Ln where
 nm : List UInt8
 i : Ins
 tg : List UInt8
def lnA (N : ByteArray) (i : Ins) (G : ByteArray) : Value := .agg #[.string N, .int .i64 i.op, .int .i64 i.rd, .int .i64 i.rs1, .int .i64 i.rs2, .int .i64 i.im, .int .i64 i.ln, .string G]
def lnV (l : Ln) : Value := lnA ⟨l.nm.toArray⟩ l.i ⟨l.tg.toArray⟩
def ln0 : Ln := ⟨[], ins0, []⟩
def insO (N G : ByteArray) : Option Ins -> Value
 | some i => .tuple #[lnA N i G, .bool true]
 | none => .tuple #[lnA ⟨#[]⟩ ins0 ⟨#[]⟩, .bool false]
namespace Byt
def opdR (i : Ins) (c : Nat) (t : List UInt8) : Option Ins :=
 match reg t with
 | none => none
 | some r => some (if c = 100 then { i with rd := r } else if c = 115 then { i with rs1 := r } else { i with rs2 := r })
def opdN (i : Ins) (c : Nat) (t : List UInt8) : Option Ins :=
 if (number t).2 = true then some (if c = 117 then { i with rs1 := (number t).1 } else { i with im := (number t).1 }) else none
def opdM (i : Ins) (t0 t1 t2 t3 : List UInt8) : Option Ins :=
 if t1 = [40] /\ t3 = [41] /\ (number t0).2 = true then
  match reg t2 with
  | none => none
  | some r => some { i with im := (number t0).1, rs1 := r }
 else none
end Byt
theorem a_readRegisterOperand (N G : ByteArray) (i : Ins) (c : Nat) (hc : c = 100 \/ c = 115 \/ c = 116) (s : ByteArray) (w : World) :
 CB 355 #[lnA N i G, .int .u8 c, .string s] (insO N G (Byt.opdR i c s.data.toList)) w := by
 unfold Byt.opdR
 obtain ⟨T, hT⟩ := zn1 (Byt.reg s.data.toList)
 rw [<- hT]
 have HT := hide1 hT
 clear hT
 unfold lnA
 cases T with
 | none =>
  go_enter func355, ntmps355
  go_wp2_with fail
  refine (a_readRegister s _).mono ?_
  rintro e w' ⟨rfl, rfl⟩
  rw [<- HT.out]
  go_wp2
  refine bodyPost_ret (v := insO N G none) zq533 rfl ⟨rfl, ?_⟩
  repeat (first | exact Below.refl _ _ | (with_reducible refine Below.setCell ?_ (by simp) _) | (with_reducible refine Below.alloc ?_ (by simp) _))
 | some r =>
  rcases hc with rfl | rfl | rfl
  . go_enter func355, ntmps355
    go_wp2_with fail
    refine (a_readRegister s _).mono ?_
    rintro e w' ⟨rfl, rfl⟩
    rw [<- HT.out]
    go_wp2
    refine bodyPost_ret (v := insO N G (some { i with rd := r })) zq533 rfl ⟨rfl, ?_⟩
    exact zq349
  . go_enter func355, ntmps355
    go_wp2_with fail
    refine (a_readRegister s _).mono ?_
    rintro e w' ⟨rfl, rfl⟩
    rw [<- HT.out]
    go_wp2
    refine bodyPost_ret (v := insO N G (some { i with rs1 := r })) zq533 rfl ⟨rfl, ?_⟩
    exact zq349
  . go_enter func355, ntmps355
    go_wp2_with fail
    refine (a_readRegister s _).mono ?_
    rintro e w' ⟨rfl, rfl⟩
    rw [<- HT.out]
    go_wp2
    refine bodyPost_ret (v := insO N G (some { i with rs2 := r })) zq533 rfl ⟨rfl, ?_⟩
    exact zq349
theorem eq_lit (s : ByteArray) (l : List UInt8) : (s.toList == l) = decide (s.data.toList = l) := by
 rw [Lib.toList_data, Bool.eq_iff_iff]; simp
theorem StrsAt.more {w w' : World} {b o : Nat} {L : List (List UInt8)} (h : Hid (StrsAt w b o L)) (hn : b < w.heap.size) (hb : Below w.heap.size w w') : Hid (StrsAt w' b o L) := h.out.below hb hn
def Short (L : List (List UInt8)) : Prop := ∀ t ∈ L, t.length <= 5000
theorem Short.get {L : List (List UInt8)} (h : Hid (Short L)) (a : Nat) : (L[a]?.getD []).length <= 5000 := by
 cases e : L[a]? with
 | none => simp
 | some t => exact h.out t (List.mem_of_getElem? e)
theorem a_readPlaceOperand (N G : ByteArray) (i : Ins) (b o cap : Nat) (L : List (List UInt8)) (hL : L.length <= 5000) (a : Nat) (ha : a <= 9000) (w : World) (hw : Hid (StrsAt w b o L)) (hb : b < w.heap.size) (hs : Hid (Short L)) :
 CB 356 #[lnA N i G, .slice (some ⟨b, o, none⟩) L.length cap, .int .i64 a] (insO N G (Byt.opdM i (L[a]?.getD []) (L[a + 1]?.getD []) (L[a + 2]?.getD []) (L[a + 3]?.getD []))) w := by
 unfold lnA
 have c0 := fun w hw => a_tokenAt b o cap L hL a (by omega) w hw
 have c1 := fun w hw => a_tokenAt b o cap L hL (a + 1) (by omega) w hw
 have c2 := fun w hw => a_tokenAt b o cap L hL (a + 2) (by omega) w hw
 have c3 := fun w hw => a_tokenAt b o cap L hL (a + 3) (by omega) w hw
 have s0 := Short.get hs a
 obtain ⟨t0, h0⟩ := zn1 (L[a]?.getD [])
 obtain ⟨t1, h1⟩ := zn1 (L[a + 1]?.getD [])
 obtain ⟨t2, h2⟩ := zn1 (L[a + 2]?.getD [])
 obtain ⟨t3, h3⟩ := zn1 (L[a + 3]?.getD [])
 rw [<- h0, <- h1, <- h2, <- h3]
 rw [<- h0] at c0 s0
 rw [<- h1] at c1
 rw [<- h2] at c2
 rw [<- h3] at c3
 clear h0 h1 h2 h3
 obtain ⟨X0, e0⟩ := zn1 (⟨t0.toArray⟩ : ByteArray)
 obtain ⟨X1, e1⟩ := zn1 (⟨t1.toArray⟩ : ByteArray)
 obtain ⟨X2, e2⟩ := zn1 (⟨t2.toArray⟩ : ByteArray)
 obtain ⟨X3, e3⟩ := zn1 (⟨t3.toArray⟩ : ByteArray)
 rw [show Byt.strV t0 = .string X0 by rw [e0]; rfl] at c0
 rw [show Byt.strV t1 = .string X1 by rw [e1]; rfl] at c1
 rw [show Byt.strV t2 = .string X2 by rw [e2]; rfl] at c2
 rw [show Byt.strV t3 = .string X3 by rw [e3]; rfl] at c3
 have f0 : X0.data.toList = t0 := by rw [e0]
 have f1 : X1.data.toList = t1 := by rw [e1]
 have f2 : X2.data.toList = t2 := by rw [e2]
 have f3 : X3.data.toList = t3 := by rw [e3]
 have s0' : X0.size <= 5000 := by rw [e0]; simpa [ByteArray.size] using s0
 clear e0 e1 e2 e3 s0
 subst f0 f1 f2 f3
 have C0 := hide1 c0
 have C1 := hide1 c1
 have C2 := hide1 c2
 have C3 := hide1 c3
 clear c0 c1 c2 c3
 have B2 : Below w.heap.size w ((w.alloc (.cells #[Value.string N, .int .i64 i.op, .int .i64 i.rd, .int .i64 i.rs1, .int .i64 i.rs2, .int .i64 i.im, .int .i64 i.ln, .string G] 165)).alloc (.cells #[Value.string ⟨#[]⟩, .int .i64 0, .int .i64 0, .int .i64 0, .int .i64 0, .int .i64 0, .int .i64 0, .string ⟨#[]⟩] 165)) := zq137
 have hw2 := StrsAt.more hw hb B2
 have HB := hide1 B2
 clear B2
 have q1 : (X1.toList == [40]) = decide (X1.data.toList = [40]) := eq_lit X1 [40]
 have q3 : (X3.toList == [41]) = decide (X3.data.toList = [41]) := eq_lit X3 [41]
 unfold Byt.opdM
 by_cases k1 : X1.data.toList = [40]
 . rw [decide_eq_true k1] at q1
   by_cases k3 : X3.data.toList = [41]
   . rw [decide_eq_true k3] at q3
     obtain ⟨V, hV⟩ := zn1 (Byt.number X0.data.toList)
     rw [<- hV]
     have HV := hide1 hV
     clear hV
     obtain ⟨v, vb⟩ := V
     cases vb with
     | false =>
      rw [if_neg (fun h => by simp at h)]
      clear k1 k3
      go_enter func356, ntmps356
      go_wp2_with fail
      rw [show (a : Int) + 1 = ((a + 1 : Nat) : Int) by omega]
      refine (C1.out _ hw2).mono ?_
      rintro e w1 ⟨rfl, rfl⟩
      go_wp2_with fail
      rw [show (a : Int) + 3 = ((a + 3 : Nat) : Int) by omega]
      refine (C3.out _ hw2).mono ?_
      rintro e w1 ⟨rfl, rfl⟩
      go_wp2_with fail
      refine (C0.out _ hw2).mono ?_
      rintro e w1 ⟨rfl, rfl⟩
      go_wp2_with fail
      refine (a_readNumber X0 s0' _).mono ?_
      rintro e w1 ⟨rfl, rfl⟩
      rw [<- HV.out]
      go_wp2
      refine bodyPost_ret (v := insO N G none) zq534 rfl ⟨rfl, ?_⟩
      repeat (first | exact Below.refl _ _ | (with_reducible refine Below.setCell ?_ (by simp) _) | (with_reducible refine Below.alloc ?_ (by simp) _))
     | true =>
      rw [if_pos ⟨k1, k3, rfl⟩]
      clear k1 k3
      obtain ⟨R, hR⟩ := zn1 (Byt.reg X2.data.toList)
      rw [<- hR]
      have HR := hide1 hR
      clear hR
      cases R with
      | none =>
       go_enter func356, ntmps356
       go_wp2_with fail
       rw [show (a : Int) + 1 = ((a + 1 : Nat) : Int) by omega]
       refine (C1.out _ hw2).mono ?_
       rintro e w1 ⟨rfl, rfl⟩
       go_wp2_with fail
       rw [show (a : Int) + 3 = ((a + 3 : Nat) : Int) by omega]
       refine (C3.out _ hw2).mono ?_
       rintro e w1 ⟨rfl, rfl⟩
       go_wp2_with fail
       refine (C0.out _ hw2).mono ?_
       rintro e w1 ⟨rfl, rfl⟩
       go_wp2_with fail
       refine (a_readNumber X0 s0' _).mono ?_
       rintro e w1 ⟨rfl, rfl⟩
       rw [<- HV.out]
       go_wp2_with fail
       rw [show (a : Int) + 2 = ((a + 2 : Nat) : Int) by omega]
       refine (C2.out _ hw2).mono ?_
       rintro e w1 ⟨rfl, rfl⟩
       go_wp2_with fail
       refine (a_readRegister X2 _).mono ?_
       rintro e w1 ⟨rfl, rfl⟩
       rw [<- HR.out]
       go_wp2
       refine bodyPost_ret (v := insO N G none) zq534 rfl ⟨rfl, ?_⟩
       repeat (first | exact Below.refl _ _ | (with_reducible refine Below.setCell ?_ (by simp) _) | (with_reducible refine Below.alloc ?_ (by simp) _))
      | some r =>
       go_enter func356, ntmps356
       go_wp2_with fail
       rw [show (a : Int) + 1 = ((a + 1 : Nat) : Int) by omega]
       refine (C1.out _ hw2).mono ?_
       rintro e w1 ⟨rfl, rfl⟩
       go_wp2_with fail
       rw [show (a : Int) + 3 = ((a + 3 : Nat) : Int) by omega]
       refine (C3.out _ hw2).mono ?_
       rintro e w1 ⟨rfl, rfl⟩
       go_wp2_with fail
       refine (C0.out _ hw2).mono ?_
       rintro e w1 ⟨rfl, rfl⟩
       go_wp2_with fail
       refine (a_readNumber X0 s0' _).mono ?_
       rintro e w1 ⟨rfl, rfl⟩
       rw [<- HV.out]
       go_wp2_with fail
       rw [show (a : Int) + 2 = ((a + 2 : Nat) : Int) by omega]
       refine (C2.out _ hw2).mono ?_
       rintro e w1 ⟨rfl, rfl⟩
       go_wp2_with fail
       refine (a_readRegister X2 _).mono ?_
       rintro e w1 ⟨rfl, rfl⟩
       rw [<- HR.out]
       go_wp2
       refine bodyPost_ret (v := insO N G (some { i with im := v, rs1 := r })) zq534 rfl ⟨rfl, ?_⟩
       repeat (first | exact Below.refl _ _ | (with_reducible refine Below.setCell ?_ (by simp) _) | (with_reducible refine Below.alloc ?_ (by simp) _))
   . rw [decide_eq_false k3] at q3
     rw [if_neg (fun h => k3 h.2.1)]
     clear k1 k3
     go_enter func356, ntmps356
     go_wp2_with fail
     rw [show (a : Int) + 1 = ((a + 1 : Nat) : Int) by omega]
     refine (C1.out _ hw2).mono ?_
     rintro e w1 ⟨rfl, rfl⟩
     go_wp2_with fail
     rw [show (a : Int) + 3 = ((a + 3 : Nat) : Int) by omega]
     refine (C3.out _ hw2).mono ?_
     exact zq350
 . rw [decide_eq_false k1] at q1
   rw [if_neg (fun h => k1 h.1)]
   clear k1 q3
   go_enter func356, ntmps356
   go_wp2_with fail
   rw [show (a : Int) + 1 = ((a + 1 : Nat) : Int) by omega]
   refine (C1.out _ hw2).mono ?_
   exact zq350
namespace Byt
def opdP (i : Ins) (g : List UInt8) (c : Nat) (T : List (List UInt8)) : Option (Ins × List UInt8) :=
 if c = 100 \/ c = 115 \/ c = 116 then (opdR i c (T[0]?.getD [])).map fun j => (j, g)
 else if c = 109 then (opdM i (T[0]?.getD []) (T[1]?.getD []) (T[2]?.getD []) (T[3]?.getD [])).map fun j => (j, g)
 else if c = 106 /\ isName (T[0]?.getD []) = true then some (i, T[0]?.getD [])
 else (opdN i c (T[0]?.getD [])).map fun j => (j, g)
end Byt
def lnO (N : ByteArray) : Option (Ins × List UInt8) -> Value
 | some (i, g) => .tuple #[lnA N i ⟨g.toArray⟩, .bool true]
 | none => .tuple #[lnA ⟨#[]⟩ ins0 ⟨#[]⟩, .bool false]
theorem lnO_map (N : ByteArray) (g : List UInt8) (o : Option Ins) : lnO N (o.map fun j => (j, g)) = insO N ⟨g.toArray⟩ o := by cases o <;> rfl
theorem a_operandTokens (c : Nat) (w : World) :
 CS 311 #[.int .u8 c] (.int .i64 (if c = 109 then 4 else 1 : Nat)) w := by
 by_cases h : c = 109
 . subst h
   exact zq351
 . rw [if_neg h]
   have h' : ((c : Int) == 109) = false := by simp; omega
   exact zq351
structure Bx (w : World) (b : Nat) (N : ByteArray) (i : Ins) (G : ByteArray) : Prop where
 c0 : w.cell? ⟨b, 0, none⟩ = some (.string N)
 c1 : w.cell? ⟨b, 1, none⟩ = some (.int .i64 i.op)
 c2 : w.cell? ⟨b, 2, none⟩ = some (.int .i64 i.rd)
 c3 : w.cell? ⟨b, 3, none⟩ = some (.int .i64 i.rs1)
 c4 : w.cell? ⟨b, 4, none⟩ = some (.int .i64 i.rs2)
 c5 : w.cell? ⟨b, 5, none⟩ = some (.int .i64 i.im)
 c6 : w.cell? ⟨b, 6, none⟩ = some (.int .i64 i.ln)
 c7 : w.cell? ⟨b, 7, none⟩ = some (.string G)
 fro : ∀ o, w.frozen? ⟨b, o, none⟩ = false
 lt : b < w.heap.size
theorem Bx.more {w w' : World} {b n : Nat} {N G : ByteArray} {i : Ins} (h : Bx w b N i G) (hb : Below n w w') (hn : b < n) : Bx w' b N i G :=
 ⟨(hb.cell (p := ⟨b, 0, none⟩) hn).trans h.c0, (hb.cell (p := ⟨b, 1, none⟩) hn).trans h.c1, (hb.cell (p := ⟨b, 2, none⟩) hn).trans h.c2, (hb.cell (p := ⟨b, 3, none⟩) hn).trans h.c3, (hb.cell (p := ⟨b, 4, none⟩) hn).trans h.c4, (hb.cell (p := ⟨b, 5, none⟩) hn).trans h.c5, (hb.cell (p := ⟨b, 6, none⟩) hn).trans h.c6, (hb.cell (p := ⟨b, 7, none⟩) hn).trans h.c7, fun o => (hb.frozen (p := ⟨b, o, none⟩) hn).trans (h.fro o), by have := hb.size; have := h.lt; omega⟩
def lnC (N : ByteArray) (i : Ins) (G : ByteArray) : Obj := .cells #[.string N, .int .i64 i.op, .int .i64 i.rd, .int .i64 i.rs1, .int .i64 i.rs2, .int .i64 i.im, .int .i64 i.ln, .string G] 165
theorem Bx.new (w : World) (N : ByteArray) (i : Ins) (G : ByteArray) : Bx (w.alloc (lnC N i G)) w.heap.size N i G := by
 unfold lnC
 refine ⟨?_, ?_, ?_, ?_, ?_, ?_, ?_, ?_, ?_, ?_⟩ <;> simp
theorem Bx.alloc {w : World} {b : Nat} {N G : ByteArray} {i : Ins} (h : Bx w b N i G) (o : Obj) : Bx (w.alloc o) b N i G := h.more ((Below.refl w.heap.size w).alloc (Nat.le_refl _) o) h.lt
theorem drop_get (L : List (List UInt8)) (a k : Nat) : (L.drop a)[k]? = L[a + k]? := List.getElem?_drop
theorem a_readOperand (N : ByteArray) (g : List UInt8) (i : Ins) (c : Nat) (hc : c = 100 \/ c = 115 \/ c = 116 \/ c = 109 \/ c = 106 \/ c = 117 \/ c = 105) (b o cap : Nat) (L : List (List UInt8)) (hL : L.length <= 5000) (a : Nat) (ha : a <= 9000) (w : World) (hw : Hid (StrsAt w b o L)) (hb : b < w.heap.size) (hs : Hid (Short L)) :
 CB 310 #[lnA N i ⟨g.toArray⟩, .int .u8 c, .slice (some ⟨b, o, none⟩) L.length cap, .int .i64 a] (lnO N (Byt.opdP i g c (L.drop a))) w := by
 have c0 := fun w hw => a_tokenAt b o cap L hL a (by omega) w hw
 have s0 := Short.get hs a
 have cm := fun (w : World) (hw : Hid (StrsAt w b o L)) (hb : b < w.heap.size) => a_readPlaceOperand N ⟨g.toArray⟩ i b o cap L hL a ha w hw hb hs
 unfold Byt.opdP
 rw [drop_get, drop_get, drop_get, drop_get, Nat.add_zero]
 obtain ⟨t0, h0⟩ := zn1 (L[a]?.getD [])
 rw [<- h0]
 rw [<- h0] at c0 s0 cm
 clear h0
 obtain ⟨X0, e0⟩ := zn1 (⟨t0.toArray⟩ : ByteArray)
 rw [show Byt.strV t0 = .string X0 by rw [e0]; rfl] at c0
 have f0 : X0.data.toList = t0 := by rw [e0]
 have s0' : X0.size <= 5000 := by rw [e0]; simpa [ByteArray.size] using s0
 clear e0 s0
 subst f0
 have C0 := hide1 c0
 have CM := hide1 cm
 clear c0 cm
 obtain ⟨G, hG⟩ := zn1 (⟨g.toArray⟩ : ByteArray)
 have B2 : Below w.heap.size w ((w.alloc (lnC N i G)).alloc (lnC ⟨#[]⟩ ins0 ⟨#[]⟩)) := zq137
 have hw2 := StrsAt.more hw hb B2
 have hb2 : b < ((w.alloc (lnC N i G)).alloc (lnC ⟨#[]⟩ ins0 ⟨#[]⟩)).heap.size := Nat.lt_of_lt_of_le hb B2.size
 have hX : Bx ((w.alloc (lnC N i G)).alloc (lnC ⟨#[]⟩ ins0 ⟨#[]⟩)) (w.heap.size + 1) ⟨#[]⟩ ins0 ⟨#[]⟩ := by
  have h := Bx.new (w.alloc (lnC N i G)) ⟨#[]⟩ ins0 ⟨#[]⟩
  simpa using h
 have HB := hide1 B2
 have HB2 := hide1 hb2
 have HX := hide1 hX
 unfold lnC ins0 at hw2 HB HB2 HX
 clear B2 hb2 hX
 rcases hc with rfl | rfl | rfl | rfl | rfl | rfl | rfl
 . rw [if_pos (by decide), lnO_map, <- hG]
   clear hG
   obtain ⟨O, hO⟩ := zn1 (Byt.opdR i 100 X0.data.toList)
   rw [<- hO]
   have HO := hide1 hO
   clear hO
   unfold lnA
   go_enter func310, ntmps310
   go_wp2_with fail
   refine (C0.out _ hw2).mono ?_
   rintro e w1 ⟨rfl, rfl⟩
   go_wp2_with fail
   refine (a_readRegisterOperand N G i 100 (by decide) X0 _).mono ?_
   exact zq352
 . rw [if_pos (by decide), lnO_map, <- hG]
   clear hG
   obtain ⟨O, hO⟩ := zn1 (Byt.opdR i 115 X0.data.toList)
   rw [<- hO]
   have HO := hide1 hO
   clear hO
   unfold lnA
   go_enter func310, ntmps310
   go_wp2_with fail
   refine (C0.out _ hw2).mono ?_
   rintro e w1 ⟨rfl, rfl⟩
   go_wp2_with fail
   refine (a_readRegisterOperand N G i 115 (by decide) X0 _).mono ?_
   exact zq352
 . rw [if_pos (by decide), lnO_map, <- hG]
   clear hG
   obtain ⟨O, hO⟩ := zn1 (Byt.opdR i 116 X0.data.toList)
   rw [<- hO]
   have HO := hide1 hO
   clear hO
   unfold lnA
   go_enter func310, ntmps310
   go_wp2_with fail
   refine (C0.out _ hw2).mono ?_
   rintro e w1 ⟨rfl, rfl⟩
   go_wp2_with fail
   refine (a_readRegisterOperand N G i 116 (by decide) X0 _).mono ?_
   exact zq352
 . rw [if_neg (by decide), if_pos rfl, lnO_map, <- hG]
   rw [<- hG] at CM
   clear hG
   obtain ⟨O, hO⟩ := zn1 (Byt.opdM i X0.data.toList (L[a + 1]?.getD []) (L[a + 2]?.getD []) (L[a + 3]?.getD []))
   rw [<- hO]
   have HO := hide1 hO
   clear hO
   unfold lnA
   go_enter func310, ntmps310
   go_wp2_with fail
   refine (C0.out _ hw2).mono ?_
   rintro e w1 ⟨rfl, rfl⟩
   go_wp2_with fail
   refine (CM.out _ hw2 HB2.out).mono ?_
   exact zq352
 . rw [if_neg (by decide), if_neg (by decide)]
   cases hn : Byt.isName X0.data.toList
   . rw [if_neg (by simp), lnO_map, <- hG]
     clear hG
     obtain ⟨V, hV⟩ := zn1 (Byt.number X0.data.toList)
     have HV := hide1 hV
     unfold Byt.opdN
     rw [<- hV]
     clear hV
     obtain ⟨v, vb⟩ := V
     cases vb with
     | false =>
      rw [if_neg (by simp)]
      unfold lnA
      go_enter func310, ntmps310
      go_wp2_with fail
      refine (C0.out _ hw2).mono ?_
      rintro e w1 ⟨rfl, rfl⟩
      go_wp2_with fail
      refine (a_isName X0 s0' _).mono ?_
      rintro e w1 ⟨rfl, rfl⟩
      rw [hn]
      go_wp2_with fail
      refine (a_readNumber X0 s0' _).mono ?_
      rintro e w1 ⟨rfl, rfl⟩
      rw [<- HV.out]
      go_wp2
      refine bodyPost_ret (v := insO N G none) zq535 rfl ⟨by first | rfl | simp [lnO, lnA], ?_⟩
      repeat (first | with_reducible exact Below.refl _ _ | with_reducible exact hB.out | (with_reducible refine Below.setCell ?_ (by simp) _) | (with_reducible refine Below.alloc ?_ (by simp) _))
     | true =>
      rw [if_pos rfl]
      unfold lnA
      go_enter func310, ntmps310
      go_wp2_with fail
      refine (C0.out _ hw2).mono ?_
      rintro e w1 ⟨rfl, rfl⟩
      go_wp2_with fail
      refine (a_isName X0 s0' _).mono ?_
      rintro e w1 ⟨rfl, rfl⟩
      rw [hn]
      go_wp2_with fail
      refine (a_readNumber X0 s0' _).mono ?_
      rintro e w1 ⟨rfl, rfl⟩
      rw [<- HV.out]
      go_wp2
      refine bodyPost_ret (v := insO N G (some { i with im := v })) zq535 rfl ⟨by first | rfl | simp [lnO, lnA], ?_⟩
      repeat (first | with_reducible exact Below.refl _ _ | with_reducible exact hB.out | (with_reducible refine Below.setCell ?_ (by simp) _) | (with_reducible refine Below.alloc ?_ (by simp) _))
   . rw [if_pos (by simp)]
     rw [<- hG]
     clear hG
     unfold lnA
     go_enter func310, ntmps310
     go_wp2_with fail
     refine (C0.out _ hw2).mono ?_
     rintro e w1 ⟨rfl, rfl⟩
     go_wp2_with fail
     refine (a_isName X0 s0' _).mono ?_
     rintro e w1 ⟨rfl, rfl⟩
     rw [hn]
     go_wp2
     refine bodyPost_ret (v := .tuple #[lnA N i X0, .bool true]) zq535 rfl ⟨by first | rfl | simp [lnO, lnA], ?_⟩
     repeat (first | with_reducible exact Below.refl _ _ | with_reducible exact hB.out | (with_reducible refine Below.setCell ?_ (by simp) _) | (with_reducible refine Below.alloc ?_ (by simp) _))
 . rw [if_neg (by decide), if_neg (by decide), if_neg (by simp), lnO_map, <- hG]
   clear hG
   obtain ⟨V, hV⟩ := zn1 (Byt.number X0.data.toList)
   have HV := hide1 hV
   unfold Byt.opdN
   rw [<- hV]
   clear hV
   obtain ⟨v, vb⟩ := V
   cases vb with
   | false =>
    rw [if_neg (by simp)]
    unfold lnA
    go_enter func310, ntmps310
    go_wp2_with fail
    refine (C0.out _ hw2).mono ?_
    rintro e w1 ⟨rfl, rfl⟩
    go_wp2_with fail
    refine (a_readNumber X0 s0' _).mono ?_
    rintro e w1 ⟨rfl, rfl⟩
    rw [<- HV.out]
    go_wp2
    refine bodyPost_ret (v := insO N G none) zq535 rfl ⟨by first | rfl | simp [lnO, lnA], ?_⟩
    repeat (first | with_reducible exact Below.refl _ _ | with_reducible exact hB.out | (with_reducible refine Below.setCell ?_ (by simp) _) | (with_reducible refine Below.alloc ?_ (by simp) _))
   | true =>
    rw [if_pos rfl]
    unfold lnA
    go_enter func310, ntmps310
    go_wp2_with fail
    refine (C0.out _ hw2).mono ?_
    rintro e w1 ⟨rfl, rfl⟩
    go_wp2_with fail
    refine (a_readNumber X0 s0' _).mono ?_
    rintro e w1 ⟨rfl, rfl⟩
    rw [<- HV.out]
    go_wp2
    refine bodyPost_ret (v := insO N G (some { i with rs1 := v })) zq535 rfl ⟨by first | rfl | simp [lnO, lnA], ?_⟩
    repeat (first | with_reducible exact Below.refl _ _ | with_reducible exact hB.out | (with_reducible refine Below.setCell ?_ (by simp) _) | (with_reducible refine Below.alloc ?_ (by simp) _))
 . rw [if_neg (by decide), if_neg (by decide), if_neg (by simp), lnO_map, <- hG]
   clear hG
   obtain ⟨V, hV⟩ := zn1 (Byt.number X0.data.toList)
   have HV := hide1 hV
   unfold Byt.opdN
   rw [<- hV]
   clear hV
   obtain ⟨v, vb⟩ := V
   cases vb with
   | false =>
    rw [if_neg (by simp)]
    unfold lnA
    go_enter func310, ntmps310
    go_wp2_with fail
    refine (C0.out _ hw2).mono ?_
    rintro e w1 ⟨rfl, rfl⟩
    go_wp2_with fail
    refine (a_readNumber X0 s0' _).mono ?_
    rintro e w1 ⟨rfl, rfl⟩
    rw [<- HV.out]
    go_wp2
    refine bodyPost_ret (v := insO N G none) zq535 rfl ⟨by first | rfl | simp [lnO, lnA], ?_⟩
    repeat (first | with_reducible exact Below.refl _ _ | with_reducible exact hB.out | (with_reducible refine Below.setCell ?_ (by simp) _) | (with_reducible refine Below.alloc ?_ (by simp) _))
   | true =>
    rw [if_pos rfl]
    unfold lnA
    go_enter func310, ntmps310
    go_wp2_with fail
    refine (C0.out _ hw2).mono ?_
    rintro e w1 ⟨rfl, rfl⟩
    go_wp2_with fail
    refine (a_readNumber X0 s0' _).mono ?_
    rintro e w1 ⟨rfl, rfl⟩
    rw [<- HV.out]
    go_wp2
    refine bodyPost_ret (v := insO N G (some { i with im := v })) zq535 rfl ⟨by first | rfl | simp [lnO, lnA], ?_⟩
    repeat (first | with_reducible exact Below.refl _ _ | with_reducible exact hB.out | (with_reducible refine Below.setCell ?_ (by simp) _) | (with_reducible refine Below.alloc ?_ (by simp) _))
namespace Byt
def cnt (c : Nat) : Nat := if c = 109 then 4 else 1
def opsP : List Nat -> Bool -> Ins -> List UInt8 -> List (List UInt8) -> Option (Ins × List UInt8)
 | [], _, i, g, T => if T.length = 0 then some (i, g) else none
 | c :: cs, m, i, g, T =>
  if m = true /\ T[0]?.getD [] ≠ [44] then none
  else match opdP i g c (T.drop (if m then 1 else 0)) with
   | none => none
   | some (i', g') => opsP cs true i' g' (T.drop ((if m then 1 else 0) + cnt c))
theorem reg_nil : reg [] = none := by decide
theorem number_nil : (number []).2 = false := by decide
theorem isName_nil : isName [] = false := by decide
theorem getD_ne {T : List (List UInt8)} {k : Nat} (h : T[k]?.getD [] ≠ []) : k < T.length := by
 refine Nat.lt_of_not_le fun hk => h ?_
 rw [List.getElem?_eq_none hk]; rfl
theorem opd_len (i : Ins) (g : List UInt8) (c : Nat) (T : List (List UInt8)) (x : Ins × List UInt8) (h : opdP i g c T = some x) : cnt c <= T.length := by
 unfold opdP at h
 unfold cnt
 split at h
 . next hc =>
   rw [if_neg (by omega)]
   have : T[0]?.getD [] ≠ [] := by
    intro e; rw [e] at h; simp [opdR, reg_nil] at h
   have := getD_ne this; omega
 . split at h
   . next hc =>
     rw [if_pos hc]
     simp only [opdM] at h
     split at h
     . next hh =>
       have : T[3]?.getD [] ≠ [] := by rw [hh.2.1]; simp
       have := getD_ne this; omega
     . simp at h
   . next h1 h2 =>
     rw [if_neg h2]
     have : T[0]?.getD [] ≠ [] := by
      intro e
      rw [e] at h; simp [isName_nil, opdN, number_nil] at h
     have := getD_ne this; omega
end Byt
def put8 (w : World) (b : Nat) (N : ByteArray) (i : Ins) (G : ByteArray) : World :=
 (((((((w.setCell ⟨b, 0, none⟩ (.string N)).setCell ⟨b, 1, none⟩ (.int .i64 i.op)).setCell ⟨b, 2, none⟩ (.int .i64 i.rd)).setCell ⟨b, 3, none⟩ (.int .i64 i.rs1)).setCell ⟨b, 4, none⟩ (.int .i64 i.rs2)).setCell ⟨b, 5, none⟩ (.int .i64 i.im)).setCell ⟨b, 6, none⟩ (.int .i64 i.ln)).setCell ⟨b, 7, none⟩ (.string G)
theorem Bx.put {w : World} {b : Nat} {N G N' G' : ByteArray} {i i' : Ins} (h : Bx w b N i G) : Bx (put8 w b N' i' G') b N' i' G' := by
 have h0 := h.c0
 have h1 := h.c1
 have h2 := h.c2
 have h3 := h.c3
 have h4 := h.c4
 have h5 := h.c5
 have h6 := h.c6
 have h7 := h.c7
 have hf := h.fro
 have hl := h.lt
 unfold put8
 refine ⟨?_, ?_, ?_, ?_, ?_, ?_, ?_, ?_, ?_, ?_⟩ <;> simp [go_sem, h0, h1, h2, h3, h4, h5, h6, h7, hf, hl]
theorem below_put8 {n : Nat} {w w' : World} (h : Below n w w') {b : Nat} (hn : n <= b) (N : ByteArray) (i : Ins) (G : ByteArray) : Below n w (put8 w' b N i G) := by
 unfold put8
 repeat (first | with_reducible exact h | (with_reducible refine Below.setCell ?_ hn _))
theorem Bx.put_ne {w : World} {b c : Nat} {N G N' G' : ByteArray} {i i' : Ins} (h : Bx w b N i G) (hbc : b ≠ c) : Bx (put8 w c N' i' G') b N i G := by
 have h0 := h.c0
 have h1 := h.c1
 have h2 := h.c2
 have h3 := h.c3
 have h4 := h.c4
 have h5 := h.c5
 have h6 := h.c6
 have h7 := h.c7
 have hf := h.fro
 have hl := h.lt
 have hcb : ¬ c = b := fun e => hbc e.symm
 unfold put8
 refine ⟨?_, ?_, ?_, ?_, ?_, ?_, ?_, ?_, ?_, ?_⟩ <;> simp [go_sem, h0, h1, h2, h3, h4, h5, h6, h7, hf, hl, hbc, hcb]
def oN (N : ByteArray) (o : Option (Ins × List UInt8)) : ByteArray := if o.isSome then N else ⟨#[]⟩
def oI (o : Option (Ins × List UInt8)) : Ins := (o.map Prod.fst).getD ins0
def oG (o : Option (Ins × List UInt8)) : ByteArray := ⟨((o.map Prod.snd).getD []).toArray⟩
theorem lnO_parts (N : ByteArray) (o : Option (Ins × List UInt8)) : lnO N o = .tuple #[.agg #[.string (oN N o), .int .i64 (oI o).op, .int .i64 (oI o).rd, .int .i64 (oI o).rs1, .int .i64 (oI o).rs2, .int .i64 (oI o).im, .int .i64 (oI o).ln, .string (oG o)], .bool o.isSome] := by
 cases o with
 | none => rfl
 | some x => obtain ⟨i, g⟩ := x; rfl
theorem drop_sh (S : ByteArray) (K : Nat) (h : K < S.size) : (S.data.toList.map UInt8.toNat).drop K = S[K].toNat :: (S.data.toList.map UInt8.toNat).drop (K + 1) := by
 have hl : K < (S.data.toList.map UInt8.toNat).length := by rw [List.length_map, Array.length_toList]; exact h
 rw [List.drop_eq_getElem_cons hl]; simp; rfl
theorem ops_no {cs : List Nat} {c : Nat} {K A : Nat} {i : Ins} {g : List UInt8} {L : List (List UInt8)} (hk : 0 < K) (hc : ¬ L[A]?.getD [] = [44]) : Byt.opsP (c :: cs) (decide (0 < K)) i g (L.drop A) = none := by
 rw [decide_eq_true hk]; simp only [Byt.opsP]; rw [if_pos ⟨trivial, by rw [drop_get, Nat.add_zero]; exact hc⟩]
theorem ops_yes {cs : List Nat} {c : Nat} {K A : Nat} {i : Ins} {g : List UInt8} {L : List (List UInt8)} (hc : 0 < K -> L[A]?.getD [] = [44]) : Byt.opsP (c :: cs) (decide (0 < K)) i g (L.drop A) = match Byt.opdP i g c (L.drop (A + if 0 < K then 1 else 0)) with | none => none | some (x, y) => Byt.opsP cs true x y (L.drop ((A + if 0 < K then 1 else 0) + Byt.cnt c)) := by
 by_cases hk : 0 < K
 . have := hc hk
   rw [decide_eq_true hk, if_pos hk]; simp only [Byt.opsP, if_true]; rw [if_neg (by rw [drop_get, Nat.add_zero]; exact fun h => h.2 this), List.drop_drop, List.drop_drop, Nat.add_assoc]; try rfl
 . rw [decide_eq_false hk, if_neg hk]; simp only [Byt.opsP, Bool.false_eq_true, false_and, if_false]; rw [List.drop_drop, List.drop_drop, Nat.add_zero, Nat.zero_add]; try rfl
theorem endA {w wc w1 : World} {N N1 G G1 : ByteArray} {i I1 : Ins} (hx : Bx wc w.heap.size N i G) (hy : Bx wc (w.heap.size + 1) ⟨#[]⟩ ⟨0, 0, 0, 0, 0, 0⟩ ⟨#[]⟩) (hb : Below w.heap.size w wc) (hb2 : Below wc.heap.size wc.drew w1) :
 Hid (Bx (w1.alloc (lnC N1 I1 G1)) w1.heap.size N1 I1 G1 /\ Bx (w1.alloc (lnC N1 I1 G1)) w.heap.size N i G /\ Bx (w1.alloc (lnC N1 I1 G1)) (w.heap.size + 1) ⟨#[]⟩ ⟨0, 0, 0, 0, 0, 0⟩ ⟨#[]⟩ /\ Below w.heap.size w (w1.alloc (lnC N1 I1 G1)) /\ w.heap.size + 2 <= w1.heap.size) := by
 have h3 : Below wc.heap.size wc w1 := (Below.refl _ _).drew.trans hb2
 have hl := hy.lt
 have hs := h3.size
 exact ⟨Bx.new _ _ _ _, (hx.more h3 hx.lt).alloc _, (hy.more h3 hy.lt).alloc _, (hb.trans (h3.mono hb.size)).alloc (by omega) _, by omega⟩
theorem endB {w wc w1 : World} {N N1 G G1 : ByteArray} {i I1 : Ins} (hx : Bx wc w.heap.size N i G) (hy : Bx wc (w.heap.size + 1) ⟨#[]⟩ ⟨0, 0, 0, 0, 0, 0⟩ ⟨#[]⟩) (hb : Below w.heap.size w wc) (h3 : Below wc.heap.size wc w1) (hz : Bx w1 wc.heap.size ⟨#[]⟩ ⟨0, 0, 0, 0, 0, 0⟩ ⟨#[]⟩) :
 Hid (Bx (put8 w1 wc.heap.size N1 I1 G1) wc.heap.size N1 I1 G1 /\ Bx (put8 w1 wc.heap.size N1 I1 G1) w.heap.size N i G /\ Bx (put8 w1 wc.heap.size N1 I1 G1) (w.heap.size + 1) ⟨#[]⟩ ⟨0, 0, 0, 0, 0, 0⟩ ⟨#[]⟩ /\ Below w.heap.size w (put8 w1 wc.heap.size N1 I1 G1) /\ w.heap.size + 2 <= wc.heap.size) := by
 have hl := hy.lt
 have hl2 := hx.lt
 exact ⟨hz.put, (hx.more h3 hx.lt).put_ne (by omega), (hy.more h3 hy.lt).put_ne (by omega), below_put8 (hb.trans (h3.mono hb.size)) (by omega) _ _ _, by omega⟩
theorem a_readOperands (N : ByteArray) (i : Ins) (g : List UInt8) (S : ByteArray) (hS : Hid (Nm.shape i.op = S)) (hlen : S.size <= 8) (hlet : Hid (∀ k (h : k < S.size), S[k].toNat = 100 \/ S[k].toNat = 115 \/ S[k].toNat = 116 \/ S[k].toNat = 109 \/ S[k].toNat = 106 \/ S[k].toNat = 117 \/ S[k].toNat = 105))
 (b o cap : Nat) (L : List (List UInt8)) (hL : L.length <= 5000) (w : World) (hw : Hid (StrsAt w b o L)) (hb : b < w.heap.size) (hs : Hid (Short L)) :
 CB 222 #[lnA N i ⟨g.toArray⟩, .slice (some ⟨b, o, none⟩) L.length cap] (lnO N (Byt.opsP (S.data.toList.map UInt8.toNat) false i g L)) w := by
 obtain ⟨T, hT⟩ := zn1 (Byt.opsP (S.data.toList.map UInt8.toNat) false i g L)
 rw [<- hT]
 have HT := hide1 hT
 clear hT
 obtain ⟨G, hG⟩ := zn1 (⟨g.toArray⟩ : ByteArray)
 rw [<- hG]
 have B2 : Below w.heap.size w ((w.alloc (lnC N i G)).alloc (lnC ⟨#[]⟩ ins0 ⟨#[]⟩)) := zq137
 have hX : Bx ((w.alloc (lnC N i G)).alloc (lnC ⟨#[]⟩ ins0 ⟨#[]⟩)) (w.heap.size + 1) ⟨#[]⟩ ins0 ⟨#[]⟩ := by
  have h := Bx.new (w.alloc (lnC N i G)) ⟨#[]⟩ ins0 ⟨#[]⟩
  simpa using h
 have hY : Bx ((w.alloc (lnC N i G)).alloc (lnC ⟨#[]⟩ ins0 ⟨#[]⟩)) w.heap.size N i G := (Bx.new w N i G).alloc _
 have HB := hide1 B2
 have HX := hide1 hX
 have HY := hide1 hY
 have HG := hide1 hG
 unfold lnC ins0 at HB HX HY
 clear B2 hX hY hG
 unfold lnA
 go_enter func222, ntmps222
 go_wp2_with (go_at_call 215; refine (a_Shape i.op _).mono ?_; rintro e w' ⟨rfl, rfl⟩; rw [hS.out])
 go_loopw [7, 8] (fun a k wr => ∃ (A K : Nat) (i' : Ins) (g' : List UInt8), A <= L.length /\ K <= S.size /\ a = .int .i64 A /\ k = .int .i64 K /\ Hid (Bx wr w.heap.size N i' ⟨g'.toArray⟩) /\ Hid (Bx wr (w.heap.size + 1) ⟨#[]⟩ ⟨0, 0, 0, 0, 0, 0⟩ ⟨#[]⟩) /\ Hid (Below w.heap.size w wr) /\ Hid (T = Byt.opsP ((S.data.toList.map UInt8.toNat).drop K) (decide (0 < K)) i' g' (L.drop A))) (fun _ k _ => S.size - (intOf k).toNat)
 case atStart => exact ⟨0, 0, i, g, by omega, by omega, rfl, rfl, by rw [<- HG.out]; exact HY, HX, HB, by simpa using HT⟩
 case round =>
  obtain ⟨A, K, i', g', hA, hK, rfl, rfl, hx, hy, hb1, hh⟩ := hrel
  clear HB HX HY HG HT
  by_cases hlt : K < S.size
  . rw [drop_sh S K hlt] at hh
    obtain ⟨c, hc⟩ := zn1 (S[K].toNat)
    rw [<- hc] at hh
    have hcl := hlet.out K hlt
    rw [<- hc] at hcl
    have HC := hide1 hc
    have HCL := hide1 hcl
    clear hc hcl
    have hws := StrsAt.more hw hb hb1.out
    have hbr : b < wr.heap.size := Nat.lt_of_lt_of_le hb hb1.out.size
    obtain ⟨A', hA'⟩ : ∃ A', A' = A + if 0 < K then 1 else 0 := ⟨_, rfl⟩
    have hAl : A' <= 9000 := by rw [hA']; split <;> omega
    have HA := hide1 hA'
    clear hA'
    go_upto_if 22 with fail
    go_cut [7] from 22 to 29 (fun a wx => a = .int .i64 (A' : Int) /\ wx = wr /\ Hid (0 < K -> L[A]?.getD [] = [44]))
    case first =>
     by_cases hk : 0 < K
     . have hk' : decide (0 < K) = true := by simp [hk]
       have c0 := fun w hw => a_tokenAt b o cap L hL A (by omega) w hw
       obtain ⟨t0, h0⟩ := zn1 (L[A]?.getD [])
       rw [<- h0] at c0
       have H0 := hide1 h0
       clear h0
       obtain ⟨X0, e0⟩ := zn1 (⟨t0.toArray⟩ : ByteArray)
       rw [show Byt.strV t0 = .string X0 by rw [e0]; rfl] at c0
       have f0 : X0.data.toList = t0 := by rw [e0]
       clear e0
       rw [<- f0] at H0
       clear f0
       have C0 := hide1 c0
       clear c0
       have q1 : (X0.toList == [44]) = decide (X0.data.toList = [44]) := eq_lit X0 [44]
       by_cases k1 : X0.data.toList = [44]
       . rw [decide_eq_true k1] at q1
         have HK1 := hide1 k1
         have hA1 : Hid ((A' : Int) = A + 1) := by
          have := HA.out
          rw [if_pos hk] at this
          show (A' : Int) = A + 1
          omega
         clear k1 HA
         go_wp2_with (go_at_call 309; refine (C0.out _ hws).mono ?_; rintro e w' ⟨rfl, rfl⟩)
         go_meet
         case rel => exact ⟨by rw [hA1.out], rfl, fun _ => by rw [<- H0.out]; exact HK1.out⟩
       . rw [decide_eq_false k1] at q1
         have hno : Hid (T = none) := by
          show T = none
          rw [hh.out]
          exact ops_no hk (by rw [<- H0.out]; exact k1)
         clear k1 HA hh
         have z0 := hy.out.c0
         have z1 := hy.out.c1
         have z2 := hy.out.c2
         have z3 := hy.out.c3
         have z4 := hy.out.c4
         have z5 := hy.out.c5
         have z6 := hy.out.c6
         have z7 := hy.out.c7
         have zf := hy.out.fro
         have zl := hy.out.lt
         go_wp2_with (go_at_call 309; refine (C0.out _ hws).mono ?_; rintro e w' ⟨rfl, rfl⟩)
         refine bodyPost_ret (v := lnO N none) zq536 rfl ⟨by rw [hno.out], ?_⟩
         exact zq353
     . have hk' : decide (0 < K) = false := by simp [hk]
       have hA1 : Hid ((A' : Int) = A) := by
        have := HA.out
        rw [if_neg hk] at this
        show (A' : Int) = A
        omega
       have HK := hide1 hk
       obtain rfl : K = 0 := by omega
       clear hk hk' HA
       go_wp2
       go_meet
       case rel => exact ⟨by rw [hA1.out], rfl, fun h => absurd h HK.out⟩
    case rest =>
     obtain ⟨rfl, rfl, hcm⟩ := hcut
     rw [ops_yes hcm.out, <- HA.out] at hh
     have hcc := HC.out
     obtain ⟨O, hO⟩ := zn1 (Byt.opdP i' g' c (L.drop A'))
     rw [<- hO] at hh
     have hOl : O.isSome = true -> A' + Byt.cnt c <= L.length := by
      intro h
      obtain ⟨x, hx⟩ := Option.isSome_iff_exists.1 h
      have h1 := Byt.opd_len i' g' c (L.drop A') x (by rw [<- hO]; exact hx)
      rw [List.length_drop] at h1
      have : 1 <= Byt.cnt c := by unfold Byt.cnt; split <;> omega
      omega
     have HOl := hide1 hOl
     have hcall : ∀ W : World, Below wc.heap.size wc W -> CB 310 #[.agg #[.string N, .int .i64 i'.op, .int .i64 i'.rd, .int .i64 i'.rs1, .int .i64 i'.rs2, .int .i64 i'.im, .int .i64 i'.ln, .string ⟨g'.toArray⟩], .int .u8 c, .slice (some ⟨b, o, none⟩) L.length cap, .int .i64 A'] (.tuple #[.agg #[.string (oN N O), .int .i64 (oI O).op, .int .i64 (oI O).rd, .int .i64 (oI O).rs1, .int .i64 (oI O).rs2, .int .i64 (oI O).im, .int .i64 (oI O).ln, .string (oG O)], .bool O.isSome]) W := by
      intro W hW
      have h := a_readOperand N g' i' c HCL.out b o cap L hL A' hAl W (StrsAt.more hws hbr hW) (Nat.lt_of_lt_of_le hbr hW.size) hs
      rw [<- hO, lnO_parts] at h
      exact h
     have hci : S[K].toNat = c := hcc.symm
     clear hOl hO HA hcm HC hcc
     have x0 := hx.out.c0
     have x1 := hx.out.c1
     have x2 := hx.out.c2
     have x3 := hx.out.c3
     have x4 := hx.out.c4
     have x5 := hx.out.c5
     have x6 := hx.out.c6
     have x7 := hx.out.c7
     have xf := hx.out.fro
     have xl := hx.out.lt
     obtain ⟨I1, hI1⟩ := zn1 (oI O)
     obtain ⟨N1, hN1⟩ := zn1 (oN N O)
     obtain ⟨G1, hG1⟩ := zn1 (oG O)
     obtain ⟨ob, hob⟩ := zn1 (O.isSome)
     rw [<- hI1, <- hN1, <- hG1, <- hob] at hcall
     have HP := hide1 (And.intro hI1 (And.intro hN1 (And.intro hG1 hob)))
     clear hI1 hN1 hG1 hob
     have HCA := hide1 ((hcall wc.drew (Below.refl _ _).drew).mono fun e w1 h => (⟨h.1, h.2⟩ : _ /\ Below wc.heap.size wc.drew w1))
     have hnz := (Bx.new wc ⟨#[]⟩ ⟨0, 0, 0, 0, 0, 0⟩ ⟨#[]⟩).more (w' := (wc.alloc (lnC ⟨#[]⟩ ⟨0, 0, 0, 0, 0, 0⟩ ⟨#[]⟩)).drew) (n := wc.heap.size + 1) ((Below.refl _ _).drew) (by omega)
     have hwz : Below wc.heap.size wc (wc.alloc (lnC ⟨#[]⟩ ⟨0, 0, 0, 0, 0, 0⟩ ⟨#[]⟩)).drew := ((Below.refl _ _).alloc (Nat.le_refl _) _).drew
     have HCB := hide1 ((hcall (wc.alloc (lnC ⟨#[]⟩ ⟨0, 0, 0, 0, 0, 0⟩ ⟨#[]⟩)).drew hwz).mono fun e w1 h => (⟨h.1, hwz.trans (h.2.mono hwz.size), hide1 (hnz.more h.2 hnz.lt)⟩ : _ /\ Below wc.heap.size wc w1 /\ Hid (Bx w1 wc.heap.size ⟨#[]⟩ ⟨0, 0, 0, 0, 0, 0⟩ ⟨#[]⟩)))
     unfold lnC at HCB
     clear hcall hnz hwz
     go_upto_region 10 with fail
     go_cut [9, 10] from 30 to 39 (fun p q wx => ∃ nb : Nat, p = .pointer (some ⟨nb, 0, none⟩) /\ q = .bool ob /\ Hid (Bx wx nb N1 I1 G1 /\ Bx wx w.heap.size N i' ⟨g'.toArray⟩ /\ Bx wx (w.heap.size + 1) ⟨#[]⟩ ⟨0, 0, 0, 0, 0, 0⟩ ⟨#[]⟩ /\ Below w.heap.size w wx /\ w.heap.size + 2 <= nb))
     case first =>
      go_region_with (go_at_call 310; first | (with_reducible refine HCA.out.mono ?_; rintro e w1 ⟨rfl, hb2⟩) | (with_reducible refine HCB.out.mono ?_; rintro e w1 ⟨rfl, hb2, hz⟩; have z0 := hz.out.c0; have z1 := hz.out.c1; have z2 := hz.out.c2; have z3 := hz.out.c3; have z4 := hz.out.c4; have z5 := hz.out.c5; have z6 := hz.out.c6; have z7 := hz.out.c7; have zf := hz.out.fro; have zl := hz.out.lt))
      all_goals (go_wp2_with fail; go_meet)
      all_goals first | (refine ⟨w1.heap.size, by with_reducible rfl, rfl, ?_⟩; exact endA hx.out hy.out hb1.out hb2) | (refine ⟨wc.heap.size, by with_reducible rfl, rfl, ?_⟩; exact endB hx.out hy.out hb1.out hb2 hz.out)
     case rest =>
      obtain ⟨nb, rfl, rfl, hq⟩ := hcut
      clear HCA HCB x0 x1 x2 x3 x4 x5 x6 x7 xf xl hx hy hb1 hws hbr hw hs
      have hx := hq.out.2.1
      have hy := hq.out.2.2.1
      have hz := hq.out.1
      have hb1 := hide1 hq.out.2.2.2.1
      have hnb := hq.out.2.2.2.2
      have HX := hide1 hx
      have HY := hide1 hy
      have x0 := hx.c0
      have x1 := hx.c1
      have x2 := hx.c2
      have x3 := hx.c3
      have x4 := hx.c4
      have x5 := hx.c5
      have x6 := hx.c6
      have x7 := hx.c7
      have xf := hx.fro
      have xl := hx.lt
      have y0 := hz.c0
      have y1 := hz.c1
      have y2 := hz.c2
      have y3 := hz.c3
      have y4 := hz.c4
      have y5 := hz.c5
      have y6 := hz.c6
      have y7 := hz.c7
      have yf := hz.fro
      have yl := hz.lt
      have z0 := hy.c0
      have z1 := hy.c1
      have z2 := hy.c2
      have z3 := hy.c3
      have z4 := hy.c4
      have z5 := hy.c5
      have z6 := hy.c6
      have z7 := hy.c7
      have zf := hy.fro
      have zl := hy.lt
      clear hx hy hz hq
      cases O with
      | none =>
       obtain ⟨h1, h2, h3, h4⟩ := HP.out
       have h4' : ob = false := h4
       subst h4'
       have hno : Hid (T = none) := hh
       clear h1 h2 h3 h4 HP hh HOl
       go_wp2
       refine bodyPost_ret (v := lnO N none) zq536 rfl ⟨by rw [hno.out], ?_⟩
       repeat (first | with_reducible exact Below.refl _ _ | with_reducible exact hb1.out | (with_reducible refine Below.setCell ?_ (by simp) _) | (with_reducible refine Below.alloc ?_ (by simp) _))
      | some r =>
       obtain ⟨x, y⟩ := r
       obtain ⟨h1, h2, h3, h4⟩ := HP.out
       have h4' : ob = true := h4
       subst h4'
       have h1' : I1 = x := h1
       have h2' : N1 = N := h2
       have h3' : G1 = ⟨y.toArray⟩ := h3
       subst h1' h2' h3'
       have hgo : Hid (T = Byt.opsP ((S.data.toList.map UInt8.toNat).drop (K + 1)) true I1 y (L.drop (A' + Byt.cnt c))) := hh
       have hAK : A' + Byt.cnt c <= L.length := HOl.out rfl
       clear h1 h2 h3 h4 HP hh HOl
       have hop : ∀ W, CS 311 #[.int .u8 c] (.int .i64 (Byt.cnt c : Nat)) W := fun W => a_operandTokens c W
       obtain ⟨Q, hQ⟩ := zn1 (Byt.cnt c)
       rw [<- hQ] at hop hAK hgo
       have HOP := hide1 hop
       clear hop hQ
       go_wp2_with (go_at_call 311; refine (HOP.out _).mono ?_; rintro e w' ⟨rfl, rfl⟩)
       go_roundw
       case rel =>
        first
         | exact ⟨A' + Q, K + 1, I1, y, hAK, by omega, by go_num, by go_num, hide1 (Bx.put HX.out), hide1 (HY.out.put_ne (by omega)), hide1 (below_put8 hb1.out (Nat.le_refl _) _ _ _), by rw [decide_eq_true (Nat.succ_pos K)]; exact hgo⟩
         | ((repeat apply Exists.intro); exact ⟨⟨A' + Q, K + 1, I1, y, hAK, by omega, by go_num, by go_num, hide1 (Bx.put HX.out), hide1 (HY.out.put_ne (by omega)), hide1 (below_put8 hb1.out (Nat.le_refl _) _ _ _), by rw [decide_eq_true (Nat.succ_pos K)]; exact hgo⟩, rfl⟩)
       case measure => exact zq191
  . have hlt' : decide ((K : Int) < (S.size : Int)) = false := by simp; omega
    have hx' := hx.out
    have hy' := hy.out
    have x0 := hx'.c0
    have x1 := hx'.c1
    have x2 := hx'.c2
    have x3 := hx'.c3
    have x4 := hx'.c4
    have x5 := hx'.c5
    have x6 := hx'.c6
    have x7 := hx'.c7
    have xf := hx'.fro
    have xl := hx'.lt
    have z0 := hy'.c0
    have z1 := hy'.c1
    have z2 := hy'.c2
    have z3 := hy'.c3
    have z4 := hy'.c4
    have z5 := hy'.c5
    have z6 := hy'.c6
    have z7 := hy'.c7
    have zf := hy'.fro
    have zl := hy'.lt
    clear hx' hy'
    rw [List.drop_eq_nil_of_le (by rw [List.length_map, Array.length_toList]; show S.size <= K; omega)] at hh
    by_cases hAL : A = L.length
    . have hT : Hid (T = some (i', g')) := by
       show T = _
       rw [hh.out]; simp only [Byt.opsP]; rw [if_pos (by rw [List.length_drop]; omega)]
      have q1 : ((A : Int) != (L.length : Int)) = false := by simp; omega
      have q2 : (A != L.length) = false := by simp; omega
      clear hh
      go_wp2
      refine bodyPost_ret (v := lnO N (some (i', g'))) (by simp [results, results222, go_sem, lnO, lnA, ins0, x0, x1, x2, x3, x4, x5, x6, x7, xf, xl, z0, z1, z2, z3, z4, z5, z6, z7, zf, zl]) rfl ⟨by rw [hT.out], ?_⟩
      exact zq353
    . have hT : Hid (T = none) := by
       show T = _
       rw [hh.out]; simp only [Byt.opsP]; rw [if_neg (by rw [List.length_drop]; omega)]
      have q1 : ((A : Int) != (L.length : Int)) = true := by simp; omega
      have q2 : (A != L.length) = true := by simp; omega
      clear hh
      go_wp2
      refine bodyPost_ret (v := lnO N none) zq536 rfl ⟨by rw [hT.out], ?_⟩
      exact zq353
namespace Byt
def nls : List UInt8 -> Nat
 | [] => 0
 | c :: l => (if c.toNat = 10 then 1 else 0) + nls l
def findN : List Ln -> List UInt8 -> Nat
 | [], _ => 0
 | l :: L, n => if l.nm = n then 0 else findN L n + 1
theorem findN_le : ∀ L n, findN L n <= L.length
 | [], _ => Nat.le_refl _
 | l :: L, n => by have := findN_le L n; simp only [findN, List.length_cons]; split <;> omega
def shp (op : Nat) : List Nat := (Nm.shape op).data.toList.map UInt8.toNat
def readR (nm : List UInt8) (T : List (List UInt8)) : Int × Ln :=
 match T with
 | [] => (0, ⟨nm, ins0, []⟩)
 | t :: T => if (wrd t).2 = 0 then (5, ln0) else
  match opsP (shp (wrd t).1) false ⟨(wrd t).1, 0, 0, 0, 0, (wrd t).2⟩ [] T with
  | none => (6, ln0)
  | some (i, g) => (0, ⟨nm, i, g⟩)
def readLn (T : List (List UInt8)) (E : List Ln) : Int × Ln :=
 if 1 < T.length /\ T[1]?.getD [] = [58] then
  if isName (T[0]?.getD []) = true then
   if findN E (T[0]?.getD []) < E.length then (9, ln0) else readR (T[0]?.getD []) (T.drop 2)
  else (5, ln0)
 else readR [] T
def segs (pre : List UInt8) : List UInt8 -> List (List UInt8)
 | [] => [pre]
 | c :: l => if c.toNat = 10 then pre :: segs [] l else segs (pre ++ [c]) l
def readAll : List Ln -> List (List UInt8) -> List Ln × Int × Nat
 | E, [] => (E, 0, 0)
 | E, t :: ts => if (readLn (tok t.length t) E).1 = 0 then readAll (E ++ [(readLn (tok t.length t) E).2]) ts else ([], (readLn (tok t.length t) E).1, E.length + 1)
def place : List Ln -> Nat -> Int
 | [], _ => 0
 | _, 0 => 0
 | l :: L, n + 1 => l.i.ln + place L n
def dataD (v least most : Int) : Int × Int := if v < least \/ most < v then (0, 7) else (v, 0)
def wordD (i : Ins) : Int × Int :=
 if i.ln = 0 then (0, 0) else if i.op = 71 then dataD i.im (-2147483648) 4294967295 else if i.op = 72 then dataD i.im (-32768) 65535 else
 if (encodeD i).2 = 0 then ((encodeD i).1, 0) else (0, 7)
def leB (v : Int) (n : Nat) : List UInt8 := (strOfNums (leL v n)).data.toList
def aimed (L : List Ln) (l : Ln) (n : Nat) : Ins := if l.tg = [] then l.i else { l.i with im := place L (findN L l.tg) - n }
def lay (L : List Ln) : List Ln -> Nat -> List UInt8 -> List UInt8 × Int × Nat
 | [], _, m => (m, 0, 0)
 | l :: ls, k, m =>
  if l.tg ≠ [] /\ findN L l.tg = L.length then ([], 8, k + 1) else
  if (wordD (aimed L l m.length)).2 = 0 then lay L ls (k + 1) (m ++ leB (wordD (aimed L l m.length)).1 l.i.ln.toNat) else ([], (wordD (aimed L l m.length)).2, k + 1)
def asmD (t : List UInt8) : List UInt8 × Int × Nat :=
 if 4096 < t.length then ([], 1, 0) else if 256 < 1 + nls t then ([], 4, 0) else
 if (readAll [] (segs [] t)).2.1 = 0 then lay (readAll [] (segs [] t)).1 (readAll [] (segs [] t)).1 0 [] else ([], (readAll [] (segs [] t)).2.1, (readAll [] (segs [] t)).2.2)
end Byt
theorem a_countLines (s : ByteArray) (hs : s.size <= 5000) (w : World) :
 CS 113 #[.string s] (.int .i64 ((1 + Byt.nls s.data.toList : Nat) : Int)) w := by
 obtain ⟨T, hT⟩ := zn1 (1 + Byt.nls s.data.toList)
 rw [<- hT]
 have HT := hide1 hT
 clear hT
 go_enter func113, ntmps113
 go_wp2
 go_loop [3, 4] (fun c d => ∃ a n : Nat, a <= s.size /\ n <= 1 + a /\ c = .int .i64 n /\ d = .int .i64 a /\ Hid (T = n + Byt.nls (s.data.toList.drop a))) (fun _ d => s.size - (intOf d).toNat)
 case atStart => exact ⟨0, 1, by omega, by omega, rfl, rfl, HT⟩
 case round =>
  obtain ⟨a, n, ha, hn, rfl, rfl, hh⟩ := hrel
  by_cases hlt : a < s.size
  . have hv : T = n + ((if s[a].toNat = 10 then 1 else 0) + Byt.nls (s.data.toList.drop (a + 1))) := by rw [hh.out, dropb s a hlt]; rfl
    by_cases hc : s[a].toNat = 10
    . have hc' : ((s[a].toNat : Int) == 10) = true := by simp; omega
      rw [if_pos hc] at hv
      have HV := hide1 hv
      clear hv hh HT hc
      go_wp2
      go_round
      case rel => exact ⟨a + 1, n + 1, by omega, by omega, by go_num, by go_num, by show T = _; rw [HV.out]; omega⟩
      case measure => exact zq191
    . have hc' : ((s[a].toNat : Int) == 10) = false := by simp; omega
      rw [if_neg hc] at hv
      have HV := hide1 hv
      clear hv hh HT hc
      go_wp2
      go_round
      case rel => exact ⟨a + 1, n, by omega, by omega, rfl, by go_num, by show T = _; rw [HV.out]; omega⟩
      case measure => exact zq191
  . have hlt' : decide ((a : Int) < (s.size : Int)) = false := by simp; omega
    have hT : Hid (T = n) := (by rw [hh.out, List.drop_eq_nil_of_le (by simp; omega)]; rfl : T = n)
    clear hh HT
    exact zq194
structure Cx (w : World) (b o : Nat) (l : Ln) : Prop where
 c0 : w.cell? ⟨b, o, none⟩ = some (.string ⟨l.nm.toArray⟩)
 c1 : w.cell? ⟨b, o + 1, none⟩ = some (.int .i64 l.i.op)
 c2 : w.cell? ⟨b, o + 2, none⟩ = some (.int .i64 l.i.rd)
 c3 : w.cell? ⟨b, o + 3, none⟩ = some (.int .i64 l.i.rs1)
 c4 : w.cell? ⟨b, o + 4, none⟩ = some (.int .i64 l.i.rs2)
 c5 : w.cell? ⟨b, o + 5, none⟩ = some (.int .i64 l.i.im)
 c6 : w.cell? ⟨b, o + 6, none⟩ = some (.int .i64 l.i.ln)
 c7 : w.cell? ⟨b, o + 7, none⟩ = some (.string ⟨l.tg.toArray⟩)
def LnsAt (w : World) (p : Option Addr) (L : List Ln) : Prop := L = [] \/ ∃ b, p = some ⟨b, 0, none⟩ /\ ∀ j (h : j < L.length), Cx w b (j * 8) L[j]
theorem findN_drop (L : List Ln) (n : List UInt8) (a : Nat) (h : a < L.length) : a + Byt.findN (L.drop a) n = if L[a].nm = n then a else (a + 1) + Byt.findN (L.drop (a + 1)) n := by
 rw [List.drop_eq_getElem_cons h]; simp only [Byt.findN]; split <;> omega
theorem a_findName (p : Option Addr) (cap : Nat) (L : List Ln) (hL : L.length <= 5000) (s : ByteArray) (w : World) (hw : Hid (LnsAt w p L)) :
 CS 153 #[.slice p L.length cap, .string s] (.int .i64 (Byt.findN L s.data.toList)) w := by
 obtain ⟨T, hT⟩ := zn1 (Byt.findN L s.data.toList)
 rw [<- hT]
 have HT := hide1 hT
 clear hT
 go_enter func153, ntmps153
 go_wp2
 go_loop [5] (fun d => ∃ a : Nat, a <= L.length /\ d = .int .i64 a /\ Hid (T = a + Byt.findN (L.drop a) s.data.toList)) (fun d => L.length - (intOf d).toNat)
 case atStart => exact ⟨0, by omega, rfl, by simpa using HT⟩
 case round =>
  obtain ⟨a, ha, rfl, hh⟩ := hrel
  by_cases hlt : a < L.length
  . rcases hw.out with h0 | ⟨b, rfl, hcx⟩
    . exact zq354
    have h0 := (hcx a hlt).c0
    rw [findN_drop L _ a hlt] at hh
    clear hcx hw HT
    obtain ⟨X, hX⟩ := zn1 (⟨L[a].nm.toArray⟩ : ByteArray)
    have he := eq_str s X _ hX
    rw [<- hX] at h0
    by_cases hc : s.data.toList = L[a].nm
    . rw [if_pos hc.symm] at hh
      rw [decide_eq_true hc] at he
      have he' : (X.toList == s.toList) = true := by rw [beq_iff_eq] at he |-; exact he.symm
      clear hc hX he
      go_wp2
      go_ret
      exact ⟨by rw [hh.out]; rfl, rfl⟩
    . rw [if_neg (fun h => hc h.symm)] at hh
      rw [decide_eq_false hc] at he
      have he' : (X.toList == s.toList) = false := by rw [beq_eq_false_iff_ne] at he |-; exact fun h => he h.symm
      clear hc hX he
      go_wp2
      go_round
      case rel => exact ⟨a + 1, by omega, by go_num, hh⟩
      case measure => exact zq191
  . have hT : Hid (T = L.length) := (by rw [hh.out, List.drop_eq_nil_of_le (by omega)]; simp [Byt.findN]; omega : T = L.length)
    clear hh HT hw
    exact zq194
theorem place_drop (L : List Ln) (n a : Nat) (h1 : a < L.length) (h2 : a < n) : Byt.place (L.drop a) (n - a) = L[a].i.ln + Byt.place (L.drop (a + 1)) (n - (a + 1)) := by
 rw [List.drop_eq_getElem_cons h1, show n - a = (n - (a + 1)) + 1 by omega]; rfl
def Tidy (L : List Ln) : Prop := ∀ l ∈ L, l.i.ln = 0 \/ l.i.ln = 2 \/ l.i.ln = 4
theorem a_placeOf (p : Option Addr) (cap : Nat) (L : List Ln) (hL : L.length <= 5000) (hd : Hid (Tidy L)) (n : Nat) (hn : n <= 5000) (w : World) (hw : Hid (LnsAt w p L)) :
 CS 154 #[.slice p L.length cap, .int .i64 n] (.int .i64 (Byt.place L n)) w := by
 obtain ⟨T, hT⟩ := zn1 (Byt.place L n)
 rw [<- hT]
 have HT := hide1 hT
 clear hT
 go_enter func154, ntmps154
 go_wp2
 go_loop [5, 6] (fun c d => ∃ (a : Nat) (q : Nat), a <= L.length /\ a <= n /\ q <= 4 * a /\ c = .int .i64 q /\ d = .int .i64 a /\ Hid (T = q + Byt.place (L.drop a) (n - a))) (fun _ d => L.length - (intOf d).toNat)
 case atStart => exact ⟨0, 0, by omega, by omega, by omega, rfl, rfl, by simpa using HT⟩
 case round =>
  obtain ⟨a, q, ha, han, hq, rfl, rfl, hh⟩ := hrel
  by_cases hlt : a < L.length
  . by_cases hln : a < n
    . rcases hw.out with h0 | ⟨b, rfl, hcx⟩
      . exact zq354
      have h0 := (hcx a hlt).c6
      rw [place_drop L n a hlt hln] at hh
      have hz := hd.out L[a] (List.getElem_mem hlt)
      obtain ⟨z, hz', hz4⟩ : ∃ z : Nat, L[a].i.ln = z /\ z <= 4 := ⟨L[a].i.ln.toNat, by omega, by omega⟩
      rw [hz'] at h0 hh
      clear hcx hw HT hd hz hz'
      go_wp2
      go_round
      case rel => exact ⟨a + 1, q + z, by omega, by omega, by omega, by go_num, by go_num, by show T = _; rw [hh.out]; simp; omega⟩
      case measure => exact zq191
    . have hT : Hid (T = q) := (by rw [hh.out, show n - a = 0 by omega]; cases L.drop a <;> simp [Byt.place] : T = q)
      clear hh HT hw hd
      exact zq194
  . have hT : Hid (T = q) := (by rw [hh.out, List.drop_eq_nil_of_le (by omega)]; simp [Byt.place] : T = q)
    clear hh HT hw hd
    go_wp2
    all_goals go_ret
    all_goals exact ⟨by rw [hT.out]; rfl, rfl⟩
theorem a_dataOf (v a b : Int) (w : World) :
 CS 223 #[.int .i64 v, .int .i64 a, .int .i64 b] (.tuple #[.int .i64 (if v < a \/ b < v then 0 else v), .int .i64 (if v < a \/ b < v then 7 else 0)]) w := by
 by_cases h1 : v < a
 . rw [if_pos (Or.inl h1), if_pos (Or.inl h1)]
   exact zq355
 . by_cases h2 : b < v
   . rw [if_pos (Or.inr h2), if_pos (Or.inr h2)]
     exact zq355
   . rw [if_neg (by omega), if_neg (by omega)]
     exact zq355
theorem shapes_ok : ((List.range 73).all fun n => decide ((Nm.shape n).size <= 8) && (Nm.shape n).data.toList.all fun c => c.toNat == 100 || c.toNat == 115 || c.toNat == 116 || c.toNat == 109 || c.toNat == 106 || c.toNat == 117 || c.toNat == 105) = true := by decide +kernel
theorem shape_ok (n : Nat) (h : n <= 72) : (Nm.shape n).size <= 8 /\ ∀ k (h : k < (Nm.shape n).size), (Nm.shape n)[k].toNat = 100 \/ (Nm.shape n)[k].toNat = 115 \/ (Nm.shape n)[k].toNat = 116 \/ (Nm.shape n)[k].toNat = 109 \/ (Nm.shape n)[k].toNat = 106 \/ (Nm.shape n)[k].toNat = 117 \/ (Nm.shape n)[k].toNat = 105 := by
 have h1 := List.all_eq_true.1 shapes_ok n (by simp; omega)
 rw [Bool.and_eq_true, decide_eq_true_eq, List.all_eq_true] at h1
 refine ⟨h1.1, fun k hk => ?_⟩
 have h2 := h1.2 (Nm.shape n)[k] (by
  have : (Nm.shape n)[k] = (Nm.shape n).data.toList[k]'(by rw [Array.length_toList]; exact hk) := rfl
  rw [this]; exact List.getElem_mem _)
 simp only [Bool.or_eq_true, beq_iff_eq] at h2
 omega
theorem wrdFrom_le (t : List UInt8) : ∀ f op, (Byt.wrdFrom t f op).1 < op + f \/ (Byt.wrdFrom t f op) = (0, 0)
 | 0, op => .inr rfl
 | f + 1, op => by
  have ih := wrdFrom_le t f (op + 1)
  unfold Byt.wrdFrom
  split
  . left; simp
  . split
    . left; simp
    . rcases ih with h | h
      . left; omega
      . right; exact h
theorem wrd_le (t : List UInt8) : (Byt.wrd t).1 <= 72 := by
 unfold Byt.wrd
 split
 . decide
 . split
   . decide
   . rcases wrdFrom_le t 70 1 with h | h
     . omega
     . rw [h]; decide
theorem slice_drop (b o cap : Nat) (L : List (List UInt8)) (k : Nat) (n : Int) (hn : n = k) (hk : k <= L.length) (hcap : L.length <= cap) : ∃ o' cap', (∀ w, (Instr.slice 162 (.slice (some ⟨b, o, none⟩) L.length cap) (some (.int .i64 n)) none none).run prog w = .ok (.slice (some ⟨b, o', none⟩) (L.drop k).length cap') w) /\ (L.drop k).length <= cap' /\ (∀ w, StrsAt w b o L -> StrsAt w b o' (L.drop k)) := by
 have hr : ∀ w, (Instr.slice 162 (.slice (some ⟨b, o, none⟩) L.length cap) (some (.int .i64 n)) none none).run prog w = .ok (.slice (if cap = k then some ⟨b, o, none⟩ else some ⟨b, o + k, none⟩) (L.drop k).length (cap - k)) w := by
  intro w
  have hu : prog.underlying 162 = some (.slice (prog.elem 162)) := by kernel_rfl
  have h := run_slice_l (P := prog) w 162 (some ⟨b, o, none⟩) L.length cap hu .i64 n (by omega) (by omega)
  rw [h]
  have hz : (_root_.Go.sizeOf (prog.elem 162)).run prog w = .ok 1 w := by kernel_rfl
  rw [hz]
  simp only [Result.andThen, sliced, List.length_drop]
  rw [show n.toNat = k by omega, Nat.mul_one, Option.map_some, show (⟨b, o, none⟩ : Addr).add k = ⟨b, o + k, none⟩ by simp [Addr.add]]
 by_cases hc : cap = k
 . refine ⟨o, cap - k, fun w => by rw [hr w, if_pos hc], by rw [List.length_drop]; omega, fun w _ j hj => ?_⟩
   rw [List.length_drop] at hj; omega
 . exact ⟨o + k, cap - k, fun w => by rw [hr w, if_neg hc], by rw [List.length_drop]; omega, fun w h => h.drop k⟩
theorem Cx.below {w w' : World} {b o n : Nat} {l : Ln} (h : Cx w b o l) (hb : Below n w w') (hn : b < n) : Cx w' b o l :=
 ⟨(hb.cell (p := ⟨b, o, none⟩) hn).trans h.c0, (hb.cell (p := ⟨b, o + 1, none⟩) hn).trans h.c1, (hb.cell (p := ⟨b, o + 2, none⟩) hn).trans h.c2, (hb.cell (p := ⟨b, o + 3, none⟩) hn).trans h.c3, (hb.cell (p := ⟨b, o + 4, none⟩) hn).trans h.c4, (hb.cell (p := ⟨b, o + 5, none⟩) hn).trans h.c5, (hb.cell (p := ⟨b, o + 6, none⟩) hn).trans h.c6, (hb.cell (p := ⟨b, o + 7, none⟩) hn).trans h.c7⟩
theorem LnsAt.below {w w' : World} {p : Option Addr} {n : Nat} {L : List Ln} (h : LnsAt w p L) (hb : Below n w w') (hn : ∀ a, p = some a -> a.block < n) : LnsAt w' p L := by
 rcases h with h | ⟨b, rfl, h⟩
 . exact .inl h
 . exact .inr ⟨b, rfl, fun j hj => (h j hj).below hb (hn _ rfl)⟩
theorem readR_no (nm : List UInt8) (t : List UInt8) (LT : List (List UInt8)) (h : (Byt.wrd t).2 = 0) : Byt.readR nm (t :: LT) = (5, ln0) := by
 unfold Byt.readR; simp only; rw [if_pos h]
theorem readR_bad (nm : List UInt8) (t : List UInt8) (LT : List (List UInt8)) (h : ¬ (Byt.wrd t).2 = 0) (ho : Byt.opsP (Byt.shp (Byt.wrd t).1) false ⟨(Byt.wrd t).1, 0, 0, 0, 0, (Byt.wrd t).2⟩ [] LT = none) : Byt.readR nm (t :: LT) = (6, ln0) := by
 unfold Byt.readR; simp only; rw [if_neg h, ho]
theorem readR_yes (nm : List UInt8) (t : List UInt8) (LT : List (List UInt8)) (h : ¬ (Byt.wrd t).2 = 0) {i : Ins} {g : List UInt8} (ho : Byt.opsP (Byt.shp (Byt.wrd t).1) false ⟨(Byt.wrd t).1, 0, 0, 0, 0, (Byt.wrd t).2⟩ [] LT = some (i, g)) : Byt.readR nm (t :: LT) = (0, ⟨nm, i, g⟩) := by
 unfold Byt.readR; simp only; rw [if_neg h, ho]
theorem readLn_not {L : List (List UInt8)} {E : List Ln} (h : ¬ (1 < L.length /\ L[1]?.getD [] = [58])) : Byt.readLn L E = Byt.readR [] L := by
 unfold Byt.readLn; rw [if_neg h]
theorem readLn_word {L : List (List UInt8)} {E : List Ln} (h : 1 < L.length /\ L[1]?.getD [] = [58]) (hn : ¬ Byt.isName (L[0]?.getD []) = true) : Byt.readLn L E = (5, ln0) := by
 unfold Byt.readLn; rw [if_pos h, if_neg hn]
theorem readLn_twice {L : List (List UInt8)} {E : List Ln} (h : 1 < L.length /\ L[1]?.getD [] = [58]) (hn : Byt.isName (L[0]?.getD []) = true) (hf : Byt.findN E (L[0]?.getD []) < E.length) : Byt.readLn L E = (9, ln0) := by
 unfold Byt.readLn; rw [if_pos h, if_pos hn, if_pos hf]
theorem readLn_yes {L : List (List UInt8)} {E : List Ln} (h : 1 < L.length /\ L[1]?.getD [] = [58]) (hn : Byt.isName (L[0]?.getD []) = true) (hf : ¬ Byt.findN E (L[0]?.getD []) < E.length) : Byt.readLn L E = Byt.readR (L[0]?.getD []) (L.drop 2) := by
 unfold Byt.readLn; rw [if_pos h, if_pos hn, if_neg hf]
theorem a_readLine (b o cap : Nat) (L : List (List UInt8)) (hL : L.length <= 5000) (hcap : L.length <= cap) (p : Option Addr) (cape : Nat) (E : List Ln) (hE : E.length <= 5000) (w : World) (hw : Hid (StrsAt w b o L)) (hb : b < w.heap.size) (hs : Hid (Short L)) (he : Hid (LnsAt w p E)) (hp : Hid (∀ a, p = some a -> a.block < w.heap.size)) :
 CB 152 #[.slice (some ⟨b, o, none⟩) L.length cap, .slice p E.length cape] (.tuple #[lnV (Byt.readLn L E).2, .int .i64 (Byt.readLn L E).1]) w := by
 obtain ⟨T, hT⟩ := zn1 (Byt.readLn L E)
 rw [<- hT]
 have HT := hide1 hT
 clear hT
 obtain ⟨NM, hNM⟩ := zn1 (⟨#[]⟩ : ByteArray)
 go_enter func152, ntmps152
 by_cases h1 : 1 < L.length
 . have h1' : decide (1 < (L.length : Int)) = true := by simp; omega
   have c1 := hw.out 1 h1
   obtain ⟨X1, hX1⟩ := zn1 (⟨(L[1]).toArray⟩ : ByteArray)
   have c1' : w.cell? ⟨b, o + 1, none⟩ = some (.string X1) := by rw [c1, hX1]; rfl
   have g1 : L[1]?.getD [] = X1.data.toList := by rw [hX1, List.getElem?_eq_getElem h1]; rfl
   have q1 : (X1.toList == [58]) = decide (X1.data.toList = [58]) := eq_lit X1 [58]
   clear c1 hX1
   by_cases k1 : X1.data.toList = [58]
   . rw [decide_eq_true k1] at q1
     have c0 := hw.out 0 (by omega)
     obtain ⟨X0, hX0⟩ := zn1 (⟨(L[0]).toArray⟩ : ByteArray)
     have c0' : w.cell? ⟨b, o, none⟩ = some (.string X0) := by rw [<- Nat.add_zero o, c0, hX0]; rfl
     have hm : (L[0]'(by omega)).length <= 5000 := hs.out _ (List.getElem_mem _)
     have s0 : X0.size <= 5000 := by rw [hX0]; exact hm
     have g0 : L[0]?.getD [] = X0.data.toList := by rw [hX0, List.getElem?_eq_getElem (by omega)]; rfl
     have hX0' : X0 = ⟨X0.data.toList.toArray⟩ := (mk_list X0).symm
     have HNM := hide1 hX0'
     clear c0 hX0 hm hX0'
     obtain ⟨o2, cap2, hsl, hc2, hst⟩ := slice_drop b o cap L 2 2 rfl (by omega) hcap
     have HST := hide1 (hst w hw.out)
     have HSD : Hid (Short (L.drop 2)) := fun t ht => hs.out t (List.mem_of_mem_drop ht)
     have hlD : (L.drop 2).length <= 5000 := by rw [List.length_drop]; omega
     have hco : 1 < L.length /\ L[1]?.getD [] = [58] := ⟨h1, by rw [g1]; exact k1⟩
     have HG := hide1 (And.intro hco g0)
     obtain ⟨LD, hLD⟩ := zn1 (L.drop 2)
     have HLD := hide1 hLD
     rw [<- hLD] at HST HSD hlD hsl hc2
     have hcD := hc2
     clear hLD hst hc2 g1 k1 hco g0
     cases kn : Byt.isName X0.data.toList
     . have hT : Hid (T = (5, ln0)) := by
        show T = _
        rw [HT.out]
        exact readLn_word HG.out.1 (by rw [HG.out.2, kn]; decide)
       go_wp2_with fail
       refine (a_isName X0 s0 _).mono ?_
       rintro e w1 ⟨rfl, rfl⟩
       rw [kn]
       clear q1 c1'
       exact zq356
     . have hbw : Below w.heap.size w (w.alloc (lnC ⟨#[]⟩ ins0 ⟨#[]⟩)) := zq135
       have hfn := a_findName p cape E hE X0 _ (hide1 (he.out.below hbw hp.out))
       obtain ⟨F, hF⟩ := zn1 (Byt.findN E X0.data.toList)
       rw [<- hF] at hfn
       have HF := hide1 hF
       have HFN := hide1 hfn
       unfold lnC ins0 at HFN
       clear hfn hF hbw
       by_cases hfe : F < E.length
       . have hT : Hid (T = (9, ln0)) := by
          show T = _
          rw [HT.out]
          exact readLn_twice HG.out.1 (by rw [HG.out.2, kn]) (by rw [HG.out.2, <- HF.out]; exact hfe)
         have hfe' : decide ((F : Int) < (E.length : Int)) = true := by simp; omega
         go_wp2_with fail
         refine (a_isName X0 s0 _).mono ?_
         rintro e w1 ⟨rfl, rfl⟩
         rw [kn]
         clear q1 c1'
         go_wp2_with fail
         refine HFN.out.mono ?_
         rintro e w1 ⟨rfl, rfl⟩
         go_wp2
         refine bodyPost_ret (v := .tuple #[lnA ⟨#[]⟩ ins0 ⟨#[]⟩, .int .i64 9]) zq537 rfl ⟨by rw [hT.out] <;> rfl, ?_⟩
         exact zq357
       . have HR : Hid (T = Byt.readR X0.data.toList LD) := by
          show T = _
          rw [HT.out, HLD.out, <- HG.out.2]
          exact readLn_yes HG.out.1 (by rw [HG.out.2, kn]) (by rw [HG.out.2, <- HF.out]; exact hfe)
         have hfe' : decide ((F : Int) < (E.length : Int)) = false := by simp; omega
         go_wp2_with fail
         refine (a_isName X0 s0 _).mono ?_
         rintro e w1 ⟨rfl, rfl⟩
         rw [kn]
         clear q1 c1'
         go_upto_region 7 with fail
         go_wp2_with fail
         refine HFN.out.mono ?_
         rintro e w1 ⟨rfl, rfl⟩
         clear HFN HF kn HG HLD HT c0' s0
         go_upto_region 9 with fail
         clear hfe hfe' h1 h1' hsl
         cases LD with
         | nil =>
          have hT : Hid (T = (0, ⟨X0.data.toList, ins0, []⟩)) := HR
          clear HR
          go_wp2
          refine bodyPost_ret (v := .tuple #[lnA X0 ins0 ⟨#[]⟩, .int .i64 0]) zq537 rfl ⟨by rw [hT.out] <;> simp only [lnV] <;> (first | rfl | rw [<- HNM.out]), ?_⟩
          repeat (first | with_reducible exact Below.refl _ _ | with_reducible exact HB1.out | (with_reducible refine Below.setCell ?_ (by simp) _) | (with_reducible refine Below.alloc ?_ (by simp) _))
         | cons t LT =>
          have c0 := HST.out 0 (by simp)
          obtain ⟨X, hX⟩ := zn1 (⟨t.toArray⟩ : ByteArray)
          have d0 : w.cell? ⟨b, o2, none⟩ = some (.string X) := by rw [<- Nat.add_zero o2, c0, hX]; rfl
          have hXt : X.data.toList = t := by rw [hX]
          have hrw := a_readWord X
          obtain ⟨o3, cap3, hsl3, hc3, hst3⟩ := slice_drop b o2 cap2 (t :: LT) 1 1 rfl (by simp) hcD
          have hst3' := hst3 w HST.out
          simp only [List.drop_succ_cons, List.drop_zero] at hsl3 hc3 hst3'
          rw [hXt] at hrw
          obtain ⟨V, hV⟩ := zn1 (Byt.wrd t)
          have hV72 : V.1 <= 72 := by rw [hV]; exact wrd_le t
          rw [<- hV] at hrw
          obtain ⟨op, sz⟩ := V
          have HRW := hide1 hrw
          have HV := hide1 hV
          have HST3 := hide1 hst3'
          simp only [List.length_cons] at hlD hcD hsl3
          have hne : ((LT.length : Int) + 1 == 0) = false := by simp; omega
          have hne2 : (LT.length + 1 == 0) = false := by simp
          clear c0 hst3 hst3' hrw hV hX hXt HST
          by_cases hz : sz = 0
          . exact zq358
          . have hz' : ((sz : Int) == 0) = false := by simp; omega
            have hz2 : (sz == 0) = false := by simp; omega
            have hT3 : ∀ O, O = Byt.opsP (Byt.shp op) false ⟨op, 0, 0, 0, 0, sz⟩ [] LT -> (O = none -> T = (6, ln0)) /\ (∀ i g, O = some (i, g) -> T = (0, ⟨X0.data.toList, i, g⟩)) := by
             intro O hO
             have e1 : (Byt.wrd t).1 = op := by rw [<- HV.out]
             have e2 : (Byt.wrd t).2 = sz := by rw [<- HV.out]
             refine ⟨fun h => ?_, fun i g h => ?_⟩
             . exact zq359
             . exact zq360
            obtain ⟨S, hS⟩ := zn1 (Nm.shape op)
            have hs8 := (shape_ok op hV72).1
            have hsl := (shape_ok op hV72).2
            rw [<- hS] at hs8
            have hbw : Below w.heap.size w (w.alloc (lnC ⟨#[]⟩ ins0 ⟨#[]⟩)) := zq135
            have hcall := a_readOperands X0 ⟨op, 0, 0, 0, 0, sz⟩ [] S (hide1 hS.symm) hs8 (by rw [hS]; exact hide1 hsl) b o3 cap3 LT (by omega) _ (StrsAt.more HST3 hb hbw) (Nat.lt_of_lt_of_le hb hbw.size) (hide1 (fun t ht => HSD.out t (List.mem_cons_of_mem _ ht)))
            obtain ⟨O, hO⟩ := zn1 (Byt.opsP (S.data.toList.map UInt8.toNat) false ⟨op, 0, 0, 0, 0, sz⟩ [] LT)
            rw [<- hO, lnO_parts] at hcall
            have hTO := hT3 O (by rw [hO, hS]; rfl)
            have hnz := (Bx.new w ⟨#[]⟩ ins0 ⟨#[]⟩)
            have HCALL := hide1 (hcall.mono fun e w1 h => (⟨h.1, hide1 (hbw.trans (h.2.mono hbw.size)), hide1 (hnz.more h.2 hnz.lt)⟩ : _ /\ Hid (Below w.heap.size w w1) /\ Hid (Bx w1 w.heap.size ⟨#[]⟩ ins0 ⟨#[]⟩)))
            have HTO := hide1 hTO
            unfold lnA lnC ins0 at HCALL
            clear hT3 hs8 hsl hbw hcall hnz hTO hS hO HR HST3 HSD HV hw hs he hp
            go_wp2_with fail
            refine (HRW.out _).mono ?_
            rintro e w1 ⟨rfl, rfl⟩
            go_wp2_with fail
            refine HCALL.out.mono ?_
            rintro e w1 ⟨rfl, HB1, hz0⟩
            clear HCALL HRW
            have HBS : Hid (w.heap.size < w1.heap.size) := hz0.out.lt
            have y0 := hz0.out.c0
            have y1 := hz0.out.c1
            have y2 := hz0.out.c2
            have y3 := hz0.out.c3
            have y4 := hz0.out.c4
            have y5 := hz0.out.c5
            have y6 := hz0.out.c6
            have y7 := hz0.out.c7
            have yf := hz0.out.fro
            have yl := hz0.out.lt
            cases O with
            | none =>
             have hT := hide1 (HTO.out.1 rfl)
             clear HTO
             go_wp2
             refine bodyPost_ret (v := .tuple #[lnA ⟨#[]⟩ ins0 ⟨#[]⟩, .int .i64 6]) zq538 rfl ⟨by rw [hT.out] <;> rfl, ?_⟩
             repeat (first | with_reducible exact Below.refl _ _ | with_reducible exact HB1.out | (with_reducible refine Below.setCell ?_ (by simp) _) | (with_reducible refine Below.alloc ?_ zq539 _))
            | some r =>
             obtain ⟨i1, g1⟩ := r
             have hT := hide1 (HTO.out.2 i1 g1 rfl)
             clear HTO
             obtain ⟨G1, hG1⟩ := zn1 (oG (some (i1, g1)))
             have HG1 : Hid (G1 = ⟨g1.toArray⟩) := hG1
             have e1 : oN X0 (some (i1, g1)) = X0 := rfl
             have e2 : oI (some (i1, g1)) = i1 := rfl
             rw [<- hG1, e1, e2]
             clear hG1 e1 e2
             go_wp2
             refine bodyPost_ret (v := .tuple #[lnA X0 i1 G1, .int .i64 0]) zq538 rfl ⟨by rw [hT.out]; simp only [lnV]; rw [<- HG1.out] <;> (first | rfl | rw [<- HNM.out]), ?_⟩
             repeat (first | with_reducible exact Below.refl _ _ | with_reducible exact HB1.out | (with_reducible refine Below.setCell ?_ (by simp) _) | (with_reducible refine Below.alloc ?_ zq539 _))
   . rw [decide_eq_false k1] at q1
     have HR : Hid (T = Byt.readR [] L) := by
      show T = _
      rw [HT.out]
      exact readLn_not (fun h => k1 (by rw [<- g1]; exact h.2))
     have HST := hw
     have hcD := hcap
     have hlD := hL
     have HSD := hs
     have HNM := hide1 hNM
     go_upto_region 9 with fail
     clear q1 c1' k1 g1 h1 h1' hL hcap hNM HT
     exact zq361
 . have h1' : decide (1 < (L.length : Int)) = false := by simp; omega
   have HR : Hid (T = Byt.readR [] L) := by
    show T = _
    rw [HT.out]
    exact readLn_not (fun h => h1 h.1)
   have HST := hw
   have hcD := hcap
   have hlD := hL
   have HSD := hs
   have HNM := hide1 hNM
   go_upto_region 9 with fail
   clear h1 h1' hL hcap hNM HT
   exact zq361
def lnL (l : Ln) : List Value := [.string ⟨l.nm.toArray⟩, .int .i64 l.i.op, .int .i64 l.i.rd, .int .i64 l.i.rs1, .int .i64 l.i.rs2, .int .i64 l.i.im, .int .i64 l.i.ln, .string ⟨l.tg.toArray⟩]
def lnR (E : List Ln) : List Value := E.flatMap lnL
theorem lnR_app (E : List Ln) (l : Ln) : lnR (E ++ [l]) = lnR E ++ lnL l := by simp [lnR]
theorem lnR_get : ∀ (E : List Ln) (j : Nat) (h : j < E.length) (f : Nat), f < 8 -> (lnR E)[j * 8 + f]? = (lnL E[j])[f]?
 | [], j, h, f, hf => by simp at h
 | l :: E, 0, h, f, hf => by
  have : lnR (l :: E) = lnL l ++ lnR E := by simp [lnR]
  rw [this, Nat.zero_mul, Nat.zero_add, List.getElem?_append_left (by simp [lnL]; omega)]; rfl
 | l :: E, j + 1, h, f, hf => by
  have : lnR (l :: E) = lnL l ++ lnR E := by simp [lnR]
  have hl : (lnL l).length = 8 := rfl
  rw [this, List.getElem?_append_right (by rw [hl]; omega), hl, show (j + 1) * 8 + f - 8 = j * 8 + f by omega, lnR_get E j (by simpa using h) f hf]; rfl
theorem own_more {W W' : World} {B e size n : Nat} {v : Value} {xs : List Value} (h : W.ownsRow B e size v n xs) (hb : Below W.heap.size W W') : W'.ownsRow B e size v n xs := by
 refine ⟨h.1, ?_⟩
 rcases h.2 with h' | ⟨g, cap, cur, hv, hB, hg, h1, h2, h3, h4⟩
 . exact .inl h'
 . exact .inr ⟨g, cap, cur, hv, hB, by rw [hb.block g (Array.getElem?_eq_some_iff.1 hg).1]; exact hg, h1, h2, h3, h4⟩
theorem lns_own {w : World} {base : Nat} {v : Value} {E : List Ln} (h : w.ownsRow base 165 8 v E.length (lnR E)) (hn : v ≠ .slice none 0 0) :
 ∃ g cap, v = .slice (some ⟨g, 0, none⟩) E.length cap /\ base <= g /\ g < w.heap.size /\ LnsAt w (some ⟨g, 0, none⟩) E := by
 rcases h.2 with ⟨hv, _⟩ | ⟨g, cap, cur, rfl, hb, hg, hrest⟩
 . exact absurd hv hn
 . refine ⟨g, cap, rfl, hb, (Array.getElem?_eq_some_iff.1 hg).1, .inr ⟨g, rfl, fun j hj => ?_⟩⟩
   have hc : ∀ f, f < 8 -> w.cell? ⟨g, j * 8 + f, none⟩ = (lnL E[j])[f]? := fun f hf => by rw [h.cellAt (j * 8 + f) (by omega), lnR_get E j hj f hf]
   exact ⟨hc 0 (by omega), hc 1 (by omega), hc 2 (by omega), hc 3 (by omega), hc 4 (by omega), hc 5 (by omega), hc 6 (by omega), hc 7 (by omega)⟩
theorem tok_len : ∀ (f : Nat) (l : List UInt8), (Byt.tok f l).length <= l.length /\ ∀ t ∈ Byt.tok f l, t.length <= l.length
 | 0, l => ⟨by simp [Byt.tok], by simp [Byt.tok]⟩
 | f + 1, [] => ⟨by simp [Byt.tok], by simp [Byt.tok]⟩
 | f + 1, c :: l => by
  simp only [Byt.tok]
  have h0 := tok_len f l
  split
  . exact ⟨by simp, by simp⟩
  . split
    . next hr =>
      have h1 := tok_len f ((c :: l).drop (Byt.rowEnd (c :: l)))
      have hre := rowEnd_le (c :: l)
      rw [List.length_drop] at h1
      refine ⟨by rw [List.length_cons]; omega, fun t ht => ?_⟩
      rcases List.mem_cons.1 ht with rfl | ht
      . rw [List.length_take]; omega
      . have := h1.2 t ht; omega
    . split
      . exact ⟨by have := h0.1; rw [List.length_cons]; omega, fun t ht => by have := h0.2 t ht; rw [List.length_cons]; omega⟩
      . refine ⟨by have := h0.1; simp only [List.length_cons]; omega, fun t ht => ?_⟩
        rcases List.mem_cons.1 ht with rfl | ht
        . simp
        . have := h0.2 t ht; rw [List.length_cons]; omega
theorem a_tokens2 (s : ByteArray) (hs : s.size <= 5000) (w : World) :
 Calls prog 151 #[.string s] w fun e w' => ∃ b cap, e = .returned (.slice (some ⟨b, 0, none⟩) (Byt.tok s.size s.data.toList).length cap) /\ (Byt.tok s.size s.data.toList).length <= cap /\ b < w'.heap.size /\ Hid (StrsAt w' b 0 (Byt.tok s.size s.data.toList)) /\ Below w.heap.size w w' := by
 refine (a_tokens s hs w).mono ?_
 rintro e w' ⟨v, rfl, hn, hown, hb⟩
 have h2 := hown.2
 obtain ⟨b, cap, rfl, h1, h2', h3⟩ := StrsAt.of_row hown hn
 refine ⟨b, cap, rfl, ?_, h2', h3, hb⟩
 rcases h2 with ⟨hv, _⟩ | ⟨g, cap', cur, hv, _, _, hc, _⟩
 . exact absurd hv hn
 . simp only [Value.slice.injEq] at hv
   rw [hv.2.2]; exact hc
theorem take_more (s : ByteArray) (bg e : Nat) (h : e < s.size) (hb : bg <= e) : (s.data.toList.take (e + 1)).drop bg = (s.data.toList.take e).drop bg ++ [s[e]] := by
 have hl : e < s.data.toList.length := by rw [Array.length_toList]; exact h
 rw [List.take_add_one, List.getElem?_eq_getElem hl, List.drop_append_of_le_length (by rw [List.length_take]; omega)]
 rfl
theorem ext_list (s : ByteArray) (a b : Nat) : (s.extract a b).data.toList = (s.data.toList.take b).drop a := by
 have h := ext_str s a b
 unfold Byt.strV at h
 simp only [Value.string.injEq] at h
 rw [h, List.drop_take]
def Byt.from (s : ByteArray) (e bg : Nat) (E : List Ln) : List Ln × Int × Nat := if e <= s.size then Byt.readAll E (Byt.segs ((s.data.toList.take e).drop bg) (s.data.toList.drop e)) else (E, 0, 0)
theorem from_on (s : ByteArray) (e bg : Nat) (E : List Ln) (he : e < s.size) (hb : bg <= e) (hc : ¬ s[e].toNat = 10) : Byt.from s e bg E = Byt.from s (e + 1) bg E := by
 unfold Byt.from
 rw [if_pos (by omega), if_pos (by omega), take_more s bg e he hb, dropb s e he]
 simp only [Byt.segs]; rw [if_neg hc]
theorem from_end (s : ByteArray) (e bg : Nat) (E : List Ln) (X : ByteArray) (hX : X.data.toList = (s.data.toList.take e).drop bg) (he : e = s.size \/ ∃ h : e < s.size, s[e].toNat = 10) (Z : Int × Ln) (hZ : Byt.readLn (Byt.tok X.size X.data.toList) E = Z) : Byt.from s e bg E = if Z.1 = 0 then Byt.from s (e + 1) (e + 1) (E ++ [Z.2]) else ([], Z.1, E.length + 1) := by
 have hsz : X.size = X.data.toList.length := by rw [Array.length_toList]; rfl
 have hle : e <= s.size := by rcases he with h | ⟨h, _⟩ <;> omega
 have h1 : Byt.from s e bg E = Byt.readAll E (Byt.segs X.data.toList (s.data.toList.drop e)) := by unfold Byt.from; rw [if_pos hle, hX]
 rw [h1]
 rcases he with h | ⟨h, hc⟩
 . have h2 : ∀ E, Byt.from s (e + 1) (e + 1) E = (E, 0, 0) := fun E => by unfold Byt.from; rw [if_neg (by omega)]
   have h3 : s.data.toList.drop e = [] := List.drop_eq_nil_of_le (by rw [Array.length_toList, h]; exact Nat.le_refl _)
   rw [h2, h3]
   simp only [Byt.segs, Byt.readAll]
   rw [<- hsz, hZ]
 . have h4 : (s.data.toList.take (e + 1)).drop (e + 1) = [] := List.drop_eq_nil_of_le (by rw [List.length_take]; omega)
   have h2 : ∀ E, Byt.from s (e + 1) (e + 1) E = Byt.readAll E (Byt.segs [] (s.data.toList.drop (e + 1))) := fun E => by unfold Byt.from; rw [if_pos (by omega), h4]
   rw [h2, dropb s e h]
   simp only [Byt.segs]
   rw [if_pos hc]
   simp only [Byt.readAll]
   rw [<- hsz, hZ]
theorem a_readLines (s : ByteArray) (hs : s.size <= 4096) (w : World) :
 Calls prog 114 #[.string s] w fun e w' => (∃ v, e = .returned (.tuple #[v, .int .i64 (Byt.readAll [] (Byt.segs [] s.data.toList)).2.1, .int .i64 (Byt.readAll [] (Byt.segs [] s.data.toList)).2.2]) /\ ((Byt.readAll [] (Byt.segs [] s.data.toList)).2.1 = 0 -> ∃ p cap, v = .slice p (Byt.readAll [] (Byt.segs [] s.data.toList)).1.length cap /\ (Byt.readAll [] (Byt.segs [] s.data.toList)).1.length <= 5000 /\ (∀ a, p = some a -> a.block < w'.heap.size) /\ LnsAt w' p (Byt.readAll [] (Byt.segs [] s.data.toList)).1)) /\ Below w.heap.size w w' := by
 obtain ⟨R, hR⟩ := zn1 (Byt.readAll [] (Byt.segs [] s.data.toList))
 rw [<- hR]
 have HR : Hid (R = Byt.from s 0 0 []) := by
  show R = _
  rw [hR]; unfold Byt.from; rw [if_pos (Nat.zero_le _)]; rfl
 clear hR
 have hmk : ∀ w, (Instr.makeSlice 140 (.int .i64 0) (.int .i64 0)).run prog w = .ok (.slice (some ⟨w.heap.size, 0, none⟩) 0 0) (w.alloc (.cells #[] 165)) := fun _ => by kernel_rfl
 have hinfo : (prog.info? 165).map (fun i => (i.zero, i.size, i.bytes)) = some (some (lnA ⟨#[]⟩ ins0 ⟨#[]⟩), 8, 80) := by kernel_rfl
 obtain ⟨i0, hi, hz0, hz1, hz2⟩ := info_parts hinfo
 go_enter func114, ntmps114
 go_wp2
 go_loopw [5, 6, 7] (fun v b6 e7 wr => ∃ (e bg : Nat) (E : List Ln), e <= s.size + 1 /\ bg <= e /\ E.length <= e /\ e7 = .int .i64 e /\ b6 = .int .i64 bg /\ v ≠ .slice none 0 0 /\ Hid (wr.ownsRow w.heap.size 165 8 v E.length (lnR E)) /\ Hid (Below w.heap.size w wr) /\ Hid (R = Byt.from s e bg E)) (fun _ _ e7 _ => s.size + 1 - (intOf e7).toNat)
 case atStart => exact ⟨0, 0, [], by omega, by omega, by simp, rfl, rfl, by simp, hide1 (World.ownsRow_made w _ 0 (Nat.le_refl _) zq490 rfl), hide1 ((Below.refl _ _).alloc (Nat.le_refl _) _), HR⟩
 case round =>
  obtain ⟨e, bg, E, he, hbe, hEe, rfl, rfl, hnn, hown, hb, hh⟩ := hrel
  clear HR hmk
  by_cases hle : e <= s.size
  . by_cases hmid : ∃ h : e < s.size, ¬ s[e].toNat = 10
    . obtain ⟨hlt, hc⟩ := hmid
      have hc' : ((s[e].toNat : Int) != 10) = true := by simp; omega
      rw [from_on s e bg E hlt hbe hc] at hh
      clear hc
      go_wp2
      go_roundw
      case rel => exact ⟨e + 1, bg, E, by omega, by omega, by omega, by go_num, rfl, hnn, hown, hb, hh⟩
      case measure => exact zq191
    . have hend : e = s.size \/ ∃ h : e < s.size, s[e].toNat = 10 := by
       by_cases h : e < s.size
       . exact .inr ⟨h, Classical.byContradiction fun hc => hmid ⟨h, hc⟩⟩
       . exact .inl (by omega)
      clear hmid
      obtain ⟨g, cap, rfl, hg0, hg1, hln⟩ := lns_own hown.out hnn
      obtain ⟨X, hX⟩ := zn1 (s.extract bg e)
      have hsl : ∀ w, (Instr.slice 9 (.string s) (some (.int .i64 (bg : Int))) (some (.int .i64 (e : Int))) none).run prog w = .ok (.string X) w := by
       intro w; rw [hX]; exact slice_mid s bg e hbe hle w
      have hXl : X.data.toList = (s.data.toList.take e).drop bg := by rw [hX]; exact ext_list s bg e
      have hXs : X.size <= 4096 := by
       have : X.size = X.data.toList.length := by rw [Array.length_toList]; rfl
       rw [this, hXl, List.length_drop, List.length_take, Array.length_toList]
       have : s.data.size = s.size := rfl
       omega
      obtain ⟨K, hK⟩ := zn1 (Byt.tok X.size X.data.toList)
      have htk := a_tokens2 X (by omega)
      have hKl := (tok_len X.size X.data.toList).1
      have hKs := (tok_len X.size X.data.toList).2
      have hXz : X.data.toList.length = X.size := by rw [Array.length_toList]; rfl
      rw [hXz, <- hK] at hKl hKs
      rw [<- hK] at htk
      obtain ⟨Z, hZ⟩ := zn1 (Byt.readLn K E)
      rw [from_end s e bg E X hXl hend Z (by rw [hZ, hK])] at hh
      have HTK := hide1 htk
      have HZ := hide1 hZ
      have HLN := hide1 hln
      have hKs' : Hid (Short K) := hide1 (fun t ht => by have := hKs t ht; omega)
      have hcond : Hid (e = s.size \/ ∃ h : e < s.size, s[e].toNat = 10) := hend
      clear htk hZ hln hX hXl hXz hKs hK hend
      obtain ⟨er, l⟩ := Z
      go_upto_region 6 with fail
      go_cut [27] from 18 to 27 (fun q wx => q = .bool false /\ wx = wr)
      case first =>
       by_cases hlt : e < s.size
       . have hc : s[e].toNat = 10 := by
          rcases hcond.out with h | ⟨h, hc⟩
          . omega
          . exact hc
         have hc' : ((s[e].toNat : Int) != 10) = false := by simp; omega
         clear hc
         exact zq362
       . have hlt' : decide ((e : Int) < (s.size : Int)) = false := by simp; omega
         exact zq362
      case rest =>
       obtain ⟨rfl, rfl⟩ := hcut
       clear hcond
       go_wp2_with fail
       refine (HTK.out _).mono ?_
       rintro e1 w1 ⟨tb, tcap, rfl, htc, htb, hst, hb1⟩
       have hrl := a_readLine tb 0 tcap K (by omega) htc (some ⟨g, 0, none⟩) cap E (by omega) w1 hst htb hKs' (hide1 (HLN.out.below hb1 (fun a h => by simp only [Option.some.injEq] at h; rw [<- h]; exact hg1))) (hide1 (fun a h => by simp only [Option.some.injEq] at h; rw [<- h]; exact Nat.lt_of_lt_of_le hg1 hb1.size))
       rw [<- HZ.out] at hrl
       have HRL := hide1 hrl
       have HB1 := hide1 (hb.out.trans (hb1.mono hb.out.size))
       have HO1 := hide1 (own_more hown.out hb1)
       clear hrl HTK HLN hst hsl
       go_wp2_with fail
       refine HRL.out.mono ?_
       rintro e1 w2 ⟨rfl, hb2⟩
       have HB2 := hide1 (HB1.out.trans (hb2.mono HB1.out.size))
       have HO2 := hide1 (own_more HO1.out hb2)
       have hsz2 := HB2.out.size
       clear HRL HB1 HO1 hb1 hb2 hb hown
       obtain ⟨nm, i, tg⟩ := l
       simp only [lnV, lnA]
       obtain ⟨NM, hNM⟩ := zn1 (⟨nm.toArray⟩ : ByteArray)
       obtain ⟨TG, hTG⟩ := zn1 (⟨tg.toArray⟩ : ByteArray)
       rw [<- hNM, <- hTG]
       have HNT := hide1 (And.intro hNM hTG)
       clear hNM hTG
       by_cases her : er = 0
       . have her' : (er != 0) = false := by simp [her]
         have hgo : Hid (R = Byt.from s (e + 1) (e + 1) (E ++ [(⟨nm, i, tg⟩ : Ln)])) := by
          show R = _
          rw [hh.out, if_pos her]
         clear hh her HZ
         have hrow : ∀ j, (Value.slice (some ⟨g, 0, none⟩) E.length cap).ownBlock = some j -> w.heap.size <= j := fun j hj => by
          simp only [Value.ownBlock, Option.some.injEq] at hj
          omega
         have HROW := hide1 hrow
         clear hrow
         go_wp2_with (at_builtin; refine wpList_append_own _ rfl (.tmp 45) (.tmp 47) 140 rfl w.heap.size 165 i0 (lnA ⟨#[]⟩ ins0 ⟨#[]⟩) 8 80 Tryz.underlying140 hi hz0 hz1 hz2 rfl (by decide) _ _ _ rfl ((HO2.out.alloc _).alloc _) ⟨_, 0, none⟩ 1 1 [.string NM, .int .i64 i.op, .int .i64 i.rd, .int .i64 i.rs1, .int .i64 i.rs2, .int .i64 i.im, .int .i64 i.ln, .string TG] rfl rfl ?c1 ?c2 ?c3 ?c4 ?c5 ?_)
         case c1 =>
          intro j u hj
          match j, hj with
          | 0, hj => simp at hj; subst hj; simp [Addr.add]
          | 1, hj => simp at hj; subst hj; simp [Addr.add]
          | 2, hj => simp at hj; subst hj; simp [Addr.add]
          | 3, hj => simp at hj; subst hj; simp [Addr.add]
          | 4, hj => simp at hj; subst hj; simp [Addr.add]
          | 5, hj => simp at hj; subst hj; simp [Addr.add]
          | 6, hj => simp at hj; subst hj; simp [Addr.add]
          | 7, hj => simp at hj; subst hj; simp [Addr.add]
          | j + 8, hj => simp at hj
         case c2 => intro u hu; simp at hu; rcases hu with rfl | rfl | rfl | rfl | rfl | rfl | rfl | rfl <;> rfl
         case c3 => unfold maxLen; omega
         case c4 => omega
         case c5 => simp; omega
         intro v' w3 hown' hgrow hnil
         have hnn' : v' ≠ .slice none 0 0 := fun h => hnil h
         have hrow2 := hide1 (((HB2.out.alloc (by omega) _).alloc (by simp; omega) _).grown hgrow (by simp; omega) HROW.out)
         clear hnil hgrow HO2 HB2
         obtain ⟨h1, h2⟩ := HNT.out
         have hown2 : Hid (w3.ownsRow w.heap.size 165 8 v' (E ++ [(⟨nm, i, tg⟩ : Ln)]).length (lnR (E ++ [(⟨nm, i, tg⟩ : Ln)]))) := by
          show w3.ownsRow w.heap.size 165 8 v' (E ++ [(⟨nm, i, tg⟩ : Ln)]).length (lnR (E ++ [(⟨nm, i, tg⟩ : Ln)]))
          rw [lnR_app, List.length_append]
          rw [h1, h2] at hown'
          exact hown'
         clear hown' h1 h2 HNT
         go_wp2
         go_roundw
         case rel =>
          first
           | exact ⟨e + 1, e + 1, E ++ [(⟨nm, i, tg⟩ : Ln)], by omega, by omega, by simp; omega, by go_num, by go_num, hnn', hown2, hrow2, hgo⟩
           | ((repeat apply Exists.intro); exact ⟨⟨e + 1, e + 1, E ++ [(⟨nm, i, tg⟩ : Ln)], by omega, by omega, by simp; omega, by go_num, by go_num, hnn', hown2, hrow2, hgo⟩, rfl⟩)
         case measure => exact zq191
       . have her' : (er != 0) = true := by simp [her]
         have hgo : Hid (R = ([], er, E.length + 1)) := by
          show R = _
          rw [hh.out, if_neg her]
         have hne := hide1 her
         clear hh her HZ
         go_wp2
         go_ret3
         exact ⟨⟨_, by rw [hgo.out]; rfl, fun h => absurd (by rw [hgo.out] at h; exact h) hne.out⟩, HB2.out.alloc (by omega) _⟩
  . have hT : Hid (R = (E, 0, 0)) := by
     show R = _
     rw [hh.out]; unfold Byt.from; rw [if_neg hle]
    obtain ⟨g, cap, rfl, hg0, hg1, hln⟩ := lns_own hown.out hnn
    have HLN := hide1 hln
    have hle' : decide ((e : Int) <= (s.size : Int)) = false := by simp; omega
    clear hh hln
    go_wp2
    go_ret3
    exact ⟨⟨_, by rw [hT.out]; rfl, fun _ => ⟨some ⟨g, 0, none⟩, cap, by rw [hT.out]; rfl, by rw [hT.out]; show E.length <= 5000; omega, fun a h => by simp only [Option.some.injEq] at h; rw [<- h]; exact hg1, by rw [hT.out]; exact HLN.out⟩⟩, hb.out⟩
theorem rowCount_ok (n : Int) : (rowCount n).toNat <= 70 /\ ((rowCount n).toNat : Int) = rowCount n := by
 unfold rowCount
 cases (n == 4) <;> cases (n == 2) <;> decide
theorem i_Encode (i : Ins) (w : World) :
 CB 87 #[insV i] (.tuple #[.int .i64 (encodeD i).1, .int .i64 (encodeD i).2]) w := by
 refine (i_Encode' i (rowCount i.ln).toNat (rowCount_ok _).1 (rowCount_ok _).2 w).mono ?_
 rintro e w' ⟨⟨st, hst, rfl⟩, hb⟩
 refine ⟨?_, hb⟩
 unfold encodeD
 rw [<- hst.out]
 cases st <;> rfl
theorem a_wordOf (i : Ins) (w : World) :
 CB 155 #[insV i] (.tuple #[.int .i64 (Byt.wordD i).1, .int .i64 (Byt.wordD i).2]) w := by
 unfold Byt.wordD insV
 by_cases h0 : i.ln = 0
 . rw [if_pos h0]
   have h0' : (i.ln == 0) = true := by simp [h0]
   go_enter func155, ntmps155
   go_wp2
   exact zq363
 rw [if_neg h0]
 have h0' : (i.ln == 0) = false := by simp [h0]
 by_cases h1 : i.op = 71
 . rw [if_pos h1]
   have h1' : (i.op == 71) = true := by simp [h1]
   unfold Byt.dataD
   have hd := fun w => a_dataOf i.im (-2147483648) 4294967295 w
   obtain ⟨V, hV⟩ := zn1 (if i.im < -2147483648 \/ 4294967295 < i.im then (0, 7) else (i.im, (0 : Int)))
   rw [<- hV]
   have e1 : (if i.im < -2147483648 \/ 4294967295 < i.im then 0 else i.im) = V.1 := by rw [hV]; split <;> rfl
   have e2 : (if i.im < -2147483648 \/ 4294967295 < i.im then (7 : Int) else 0) = V.2 := by rw [hV]; split <;> rfl
   rw [e1, e2] at hd
   have HD := hide1 hd
   clear hd hV e1 e2 h0 h1
   exact zq364
 rw [if_neg h1]
 have h1' : (i.op == 71) = false := by simp [h1]
 by_cases h2 : i.op = 72
 . rw [if_pos h2]
   have h2' : (i.op == 72) = true := by simp [h2]
   unfold Byt.dataD
   have hd := fun w => a_dataOf i.im (-32768) 65535 w
   obtain ⟨V, hV⟩ := zn1 (if i.im < -32768 \/ 65535 < i.im then (0, 7) else (i.im, (0 : Int)))
   rw [<- hV]
   have e1 : (if i.im < -32768 \/ 65535 < i.im then 0 else i.im) = V.1 := by rw [hV]; split <;> rfl
   have e2 : (if i.im < -32768 \/ 65535 < i.im then (7 : Int) else 0) = V.2 := by rw [hV]; split <;> rfl
   rw [e1, e2] at hd
   have HD := hide1 hd
   clear hd hV e1 e2 h0 h1 h2
   exact zq364
 rw [if_neg h2]
 have h2' : (i.op == 72) = false := by simp [h2]
 have he := i_Encode i
 unfold insV at he
 obtain ⟨V, hV⟩ := zn1 (encodeD i)
 rw [<- hV] at he |-
 have HE := hide1 he
 clear he hV h0 h1 h2
 by_cases hv : V.2 = 0
 . rw [if_pos hv]
   have hv' : (V.2 != 0) = false := by simp [hv]
   exact zq365
 . rw [if_neg hv]
   have hv' : (V.2 != 0) = true := by simp [hv]
   exact zq365
end Go.Proofs.YtmlgonbhoknoiabGreatDoor
