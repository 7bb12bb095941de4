import Derived.Test.YtmlgonbhoknoiabGreatDoorWAO
set_option maxHeartbeats 8000000
set_option linter.all false
namespace Go.Proofs.YtmlgonbhoknoiabGreatDoor
open Go.RowKit Go.Proofs.Tryz
theorem tab_more {P : Program} {w w' : World} {name : String} {k : IntKind} {zs : List Int} (h : Lib.TabIs P w name k zs) (hb : Below w.heap.size w w') : Lib.TabIs P w' name k zs := by
 unfold Lib.TabIs World.var? at h |-
 cases hg : P.globalNamed name with
 | none => rw [hg] at h; simp at h
 | some g =>
  rw [hg] at h
  simp only [Option.bind_some] at h |-
  have hlt : g < w.heap.size := by
   refine Nat.lt_of_not_le fun hle => ?_
   rw [Array.getElem?_eq_none hle] at h; simp at h
  rw [hb.block g hlt]; exact h
theorem grow_below (w : World) (k : Nat) (os : Array Obj) : Below w.heap.size w (Go.Sort.grow (w.drewN k) os) := by
 have h1 : Below w.heap.size w (w.drewN k) := ⟨rfl, rfl, rfl, Nat.le_refl _, fun _ _ => rfl⟩
 refine h1.trans ⟨rfl, rfl, rfl, by unfold Go.Sort.grow; simp, fun j hj => ?_⟩
 show ((w.drewN k).heap ++ os)[j]? = (w.drewN k).heap[j]?
 exact Array.getElem?_append_left hj
def Tb (w : World) : Prop := Lib.TabIs prog w "internal/strconv.uint64pow10" .u64 Lib.pow10Tab
theorem Tb.more {w w' : World} (h : Tb w) (hb : Below w.heap.size w w') : Tb w' := tab_more h hb
theorem a_itoa (v : Int) (h0 : -1099511627776 <= v) (h1 : v <= 1099511627776) (w : World) (ht : Tb w) :
 CB 213 #[.int .i64 v] (Byt.strV (Lib.itoa v)) w := by
 refine (Tryz.strconv_Itoa v (by omega) (by omega) w ht).mono ?_
 rintro e w' ⟨rfl, k, os, rfl⟩
 exact ⟨rfl, grow_below _ _ _⟩
theorem itoa_len (v : Int) (h0 : -1099511627776 <= v) (h1 : v <= 1099511627776) : (Lib.itoa v).length <= 21 := Lib.itoa_length_le v (by omega) (by omega)
theorem regName_len (n : Nat) (h : n < 100) : (Byt.regName n).length <= 11 := by
 have hlen := List.all_eq_true.1 names_short n (by simpa using h)
 rw [decide_eq_true_eq] at hlen
 simp only [Byt.regName, List.length_cons]; omega
theorem a_operandText (c : Nat) (hc : c = 100 \/ c = 115 \/ c = 116 \/ c = 109 \/ c = 106 \/ c = 117 \/ c = 105) (i : Ins) (hi : Tame i) (w : World) (ht : Tb w) :
 CB 216 #[.int .u8 c, insV i] (Byt.strV (Byt.opT c i)) w := by
 obtain ⟨rd, hrd⟩ : ∃ n : Nat, i.rd = n := ⟨i.rd.toNat, by have := hi.d0; omega⟩
 obtain ⟨rs1, hrs1⟩ : ∃ n : Nat, i.rs1 = n := ⟨i.rs1.toNat, by have := hi.s0; omega⟩
 obtain ⟨rs2, hrs2⟩ : ∃ n : Nat, i.rs2 = n := ⟨i.rs2.toNat, by have := hi.t0; omega⟩
 have b0 : rd < 32 := by have := hi.d1; omega
 have b1 : rs1 < 32 := by have := hi.s1; omega
 have b2 : rs2 < 32 := by have := hi.t1; omega
 have b3 := hi.i0
 have b4 := hi.i1
 clear hi
 obtain ⟨op, d, s, t, im, ln⟩ := i
 simp only at hrd hrs1 hrs2 b3 b4
 subst hrd hrs1 hrs2
 unfold insV Byt.opT
 simp only [Int.toNat_natCast]
 have hbw : ∀ o, Below w.heap.size w (w.alloc o) := fun o => (Below.refl _ _).alloc (Nat.le_refl _) _
 have HT : Hid (∀ o, Tb (w.alloc o)) := fun o => ht.more (hbw o)
 rcases hc with rfl | rfl | rfl | rfl | rfl | rfl | rfl
 . simp only [if_true]
   obtain ⟨X, hX⟩ := zn1 (Byt.strV (Byt.regName rd))
   have hr := fun w => a_registerName rd (by omega) w
   exact zq370
 . rw [if_neg (by decide), if_pos rfl]
   obtain ⟨X, hX⟩ := zn1 (Byt.strV (Byt.regName rs1))
   have hr := fun w => a_registerName rs1 (by omega) w
   exact zq370
 . rw [if_neg (by decide), if_neg (by decide), if_pos rfl]
   obtain ⟨X, hX⟩ := zn1 (Byt.strV (Byt.regName rs2))
   have hr := fun w => a_registerName rs2 (by omega) w
   exact zq370
 . rw [if_neg (by decide), if_neg (by decide), if_neg (by decide), if_neg (by decide), if_pos rfl]
   obtain ⟨X, hX⟩ := zn1 (⟨(Byt.regName rs1).toArray⟩ : ByteArray)
   obtain ⟨Y, hY⟩ := zn1 (⟨(Lib.itoa im).toArray⟩ : ByteArray)
   obtain ⟨Z1, hZ1⟩ := zn1 (⟨(Lib.itoa im ++ [40]).toArray⟩ : ByteArray)
   obtain ⟨Z2, hZ2⟩ := zn1 (⟨((Lib.itoa im ++ [40]) ++ Byt.regName rs1).toArray⟩ : ByteArray)
   obtain ⟨Z3, hZ3⟩ := zn1 (⟨(((Lib.itoa im ++ [40]) ++ Byt.regName rs1) ++ [41]).toArray⟩ : ByteArray)
   have l1 := itoa_len im (by omega) (by omega)
   have l2 := regName_len rs1 (by omega)
   have a1 : ∀ w, (Op.stringOp .add Y ⟨#[40]⟩).run prog w = .ok (.string Z1) w := fun w => add_str (a := Y) (b := ⟨#[40]⟩) (c := Z1) (by rw [hY, hZ1]; exact mk_app _ [40]) (by rw [hY]; simp [ByteArray.size]; omega) w
   have a2 : ∀ w, (Op.stringOp .add Z1 X).run prog w = .ok (.string Z2) w := fun w => add_str (a := Z1) (b := X) (c := Z2) (by rw [hZ1, hX, hZ2]; exact mk_app _ _) (by rw [hZ1, hX]; simp [ByteArray.size]; omega) w
   have a3 : ∀ w, (Op.stringOp .add Z2 ⟨#[41]⟩).run prog w = .ok (.string Z3) w := fun w => add_str (a := Z2) (b := ⟨#[41]⟩) (c := Z3) (by rw [hZ2, hZ3]; exact mk_app _ [41]) (by rw [hZ2]; simp [ByteArray.size]; omega) w
   have hr := fun w => a_registerName rs1 (by omega) w
   rw [show Byt.strV (Byt.regName rs1) = .string X by rw [hX]; rfl] at hr
   have hn := fun w ht => a_itoa im (by omega) (by omega) w ht
   rw [show Byt.strV (Lib.itoa im) = .string Y by rw [hY]; rfl] at hn
   obtain ⟨W0, hW0⟩ := zn1 (w.alloc (.cells #[.int .i64 op, .int .i64 rd, .int .i64 rs1, .int .i64 rs2, .int .i64 im, .int .i64 ln] 60))
   have hc2 : W0.cell? ⟨w.heap.size, 2, none⟩ = some (.int .i64 rs1) := by rw [hW0]; simp
   have hl2 : w.heap.size < W0.heap.size := by rw [hW0]; simp
   have hb0 : Below w.heap.size w W0 := by rw [hW0]; exact hbw _
   have ht0 : Tb W0 := ht.more hb0
   have HNA := hide1 ((hn W0.drew (ht0.more (Below.refl _ _).drew)).mono fun e w1 h => (⟨h.1, (h.2.cell (p := ⟨w.heap.size, 2, none⟩) hl2).trans hc2, hide1 (hb0.trans ((Below.refl _ _).drew.trans (h.2.mono (Nat.le_of_lt hl2))))⟩ : _ /\ w1.cell? ⟨w.heap.size, 2, none⟩ = some (.int .i64 rs1) /\ Hid (Below w.heap.size w w1)))
   rw [hW0] at HNA
   clear hc2 hl2 hb0 ht0 hW0
   rw [show Byt.strV (Lib.itoa im ++ 40 :: (Byt.regName rs1 ++ [41])) = .string Z3 by rw [hZ3]; unfold Byt.strV; simp]
   have HR := hide1 hr
   clear hr hn hX hY hZ1 hZ2 hZ3 l1 l2 ht
   go_enter func216, ntmps216
   go_upto_region 11 with fail
   go_region_with (first | (go_at_call 303; refine (HR.out _).mono ?_; rintro e w' ⟨rfl, rfl⟩) | (go_at_call 213; with_reducible refine HNA.out.mono ?_; rintro e w1 ⟨rfl, d2, hb1⟩))
   all_goals (go_wp2; go_ret; exact ⟨rfl, hb1.out⟩)
 . exact zq371
 . rw [if_neg (by decide), if_neg (by decide), if_neg (by decide), if_pos rfl]
   obtain ⟨X, hX⟩ := zn1 (Byt.strV (Lib.itoa (rs1 : Int)))
   have hr := fun w ht => a_itoa (rs1 : Int) (by omega) (by omega) w ht
   exact zq372
 . exact zq371
theorem a_dataText (v : Int) (h0 : -1099511627776 <= v) (h1 : v <= 1099511627776) (n : Int) (w : World) (ht : Tb w) :
 CB 142 #[.int .i64 v, .int .i64 n] (Byt.strV (Byt.nmL (if n = 2 then 72 else 71) ++ 32 :: Lib.itoa v)) w := by
 obtain ⟨o, ho⟩ := zn1 (if n = 2 then 72 else 71 : Nat)
 rw [<- ho]
 have hoo : o <= 72 := by rw [ho]; split <;> omega
 obtain ⟨X, hX⟩ := zn1 (Nm.name o : ByteArray)
 obtain ⟨Y, hY⟩ := zn1 (⟨(Lib.itoa v).toArray⟩ : ByteArray)
 obtain ⟨Z1, hZ1⟩ := zn1 (⟨(Byt.nmL o ++ [32]).toArray⟩ : ByteArray)
 obtain ⟨Z2, hZ2⟩ := zn1 (⟨((Byt.nmL o ++ [32]) ++ Lib.itoa v).toArray⟩ : ByteArray)
 have l1 := itoa_len v h0 h1
 have l2 : (Byt.nmL o).length <= 20 := by have := nm_sz o hoo; unfold Byt.nmL; rw [Array.length_toList]; exact this
 have a1 : ∀ w, (Op.stringOp .add X ⟨#[32]⟩).run prog w = .ok (.string Z1) w := fun w => add_str (a := X) (b := ⟨#[32]⟩) (c := Z1) (by rw [hX, hZ1, <- mk_list (Nm.name o)]; exact mk_app _ [32]) (by rw [hX]; have := nm_sz o hoo; have h2 : (⟨#[32]⟩ : ByteArray).size = 1 := rfl; rw [h2]; omega) w
 have a2 : ∀ w, (Op.stringOp .add Z1 Y).run prog w = .ok (.string Z2) w := fun w => add_str (a := Z1) (b := Y) (c := Z2) (by rw [hZ1, hY, hZ2]; exact mk_app _ _) (by rw [hZ1, hY]; simp [ByteArray.size]; omega) w
 have hn := a_itoa v h0 h1 w ht
 rw [show Byt.strV (Lib.itoa v) = .string Y by rw [hY]; rfl] at hn
 rw [show Byt.strV (Byt.nmL o ++ 32 :: Lib.itoa v) = .string Z2 by rw [hZ2]; unfold Byt.strV; simp]
 have HN := hide1 hn
 have HX := hide1 hX
 clear hn hX hY hZ1 hZ2 l1 l2 ht hoo
 by_cases h2 : n = 2
 . rw [if_pos h2] at ho
   have h2' : (n == 2) = true := by simp [h2]
   subst ho
   have HX' : Hid (Nm.name 72 = X) := HX.out.symm
   exact zq373
 . rw [if_neg h2] at ho
   have h2' : (n == 2) = false := by simp [h2]
   subst ho
   have HX' : Hid (Nm.name 71 = X) := HX.out.symm
   exact zq373
namespace Byt
def insT (i : Ins) : List UInt8 := (if i.ln = 2 then 99 :: 46 :: nmL i.op.toNat else nmL i.op.toNat) ++ sepT (shp i.op.toNat) false i
def textD (x : Int) : List UInt8 × Int :=
 if (decodeD x).2 = 0 then
  if (encodeD (decodeD x).1).2 = 0 /\ (encodeD (decodeD x).1).1 = x then (insT (decodeD x).1, 0)
  else (nmL (if (decodeD x).1.ln = 2 then 72 else 71) ++ 32 :: Lib.itoa x, 0)
 else ([], (decodeD x).2)
end Byt
theorem app_list' (X B : ByteArray) : (X ++ B).data.toList = X.data.toList ++ B.data.toList := by
 rw [ByteArray.data_append, Array.toList_append]
theorem opT_len (c : Nat) (i : Ins) (hi : Tame i) : (Byt.opT c i).length <= 50 := by
 have h1 := regName_len i.rd.toNat (by have := hi.d1; omega)
 have h2 := regName_len i.rs1.toNat (by have := hi.s1; omega)
 have h3 := regName_len i.rs2.toNat (by have := hi.t1; omega)
 have h4 := itoa_len i.im (by have := hi.i0; omega) (by have := hi.i1; omega)
 have h5 := itoa_len i.rs1 (by have := hi.s0; omega) (by have := hi.s1; omega)
 unfold Byt.opT
 repeat (first | omega | split | (simp only [List.length_append, List.length_cons, List.length_nil]; omega))
theorem sep_cons (cs : List Nat) (c : Nat) (K : Nat) (i : Ins) : Byt.sepT (c :: cs) (decide (0 < K)) i = (if 0 < K then [44, 32] else [32]) ++ (Byt.opT c i ++ Byt.sepT cs true i) := by
 by_cases h : 0 < K <;> simp [Byt.sepT, h]
theorem a_insText (i : Ins) (hi : Hid (Tame i)) (o : Nat) (ho : i.op = o) (ho70 : o <= 70) (w : World) (ht : Hid (Tb w)) :
 CB 143 #[insV i] (Byt.strV (Byt.insT i)) w := by
 obtain ⟨T, hT⟩ := zn1 (Byt.insT i)
 rw [<- hT]
 unfold Byt.insT at hT
 rw [show i.op.toNat = o by omega] at hT
 obtain ⟨NM, hNM⟩ := zn1 (Nm.name i.op)
 obtain ⟨S, hS⟩ := zn1 (Nm.shape i.op)
 have hSo := shape_ok o (by omega)
 have hSs : Byt.shp o = S.data.toList.map UInt8.toNat := by rw [hS, ho]; rfl
 have hSl : S.size <= 8 := by rw [hS, ho]; exact hSo.1
 have hSc : Hid (∀ k (h : k < S.size), S[k].toNat = 100 \/ S[k].toNat = 115 \/ S[k].toNat = 116 \/ S[k].toNat = 109 \/ S[k].toNat = 106 \/ S[k].toNat = 117 \/ S[k].toNat = 105) := by rw [hS, ho]; exact hSo.2
 rw [hSs] at hT
 have hsh := short_add o (by omega)
 obtain ⟨SN, hSN⟩ := zn1 (⟨(99 :: 46 :: Byt.nmL o).toArray⟩ : ByteArray)
 have hsn := fun w => a_shortName o (by omega) w
 rw [show Byt.strV (99 :: 46 :: Byt.nmL o) = .string SN by rw [hSN]; rfl, <- ho] at hsn
 obtain ⟨X0, hX0⟩ := zn1 (if i.ln = 2 then SN else NM : ByteArray)
 have hnl : (Byt.nmL o).length <= 20 := by have := nm_sz o (by omega); unfold Byt.nmL; rw [Array.length_toList]; exact this
 have hX0s : X0.size <= 40 := by
  rw [hX0]; split
  . rw [hSN]; simp [ByteArray.size]; omega
  . rw [hNM, ho]; have := nm_sz o (by omega); omega
 have hT0 : Hid (T = X0.data.toList ++ Byt.sepT ((S.data.toList.map UInt8.toNat).drop 0) (decide (0 < 0)) i) := by
  show T = _
  rw [hT, hX0]
  split
  . rw [hSN]; rfl
  . rw [hNM, ho]; rfl
 have HNM := hide1 hNM
 have HS := hide1 hS
 have HSN := hide1 hsn
 clear hT hSo hSs hsh hsn hSN hnl hNM hS ho ho70
 unfold insV
 go_enter func143, ntmps143
 go_wp2_with fail
 refine (a_Name i.op _).mono ?_
 rintro e w' ⟨rfl, rfl⟩
 rw [<- HNM.out]
 go_upto_if 11 with fail
 go_cut [3] from 11 to 14 (fun v wx => v = .string X0 /\ wx = w.alloc (.cells #[.int .i64 i.op, .int .i64 i.rd, .int .i64 i.rs1, .int .i64 i.rs2, .int .i64 i.im, .int .i64 i.ln] 60))
 case first =>
  by_cases h2 : i.ln = 2
  . have h2' : (i.ln == 2) = true := by simp [h2]
    rw [if_pos h2] at hX0
    have HX0 := hide1 hX0
    clear hX0 h2
    go_wp2_with (go_at_call 214; refine (HSN.out _).mono ?_; rintro e w' ⟨rfl, rfl⟩)
    go_meet
    case rel => exact ⟨by rw [HX0.out], rfl⟩
  . have h2' : (i.ln == 2) = false := by simp [h2]
    rw [if_neg h2] at hX0
    have HX0 := hide1 hX0
    clear hX0 h2
    go_wp2
    go_meet
    case rel => exact ⟨by rw [HX0.out], rfl⟩
 case rest =>
  obtain ⟨rfl, rfl⟩ := hcut
  clear hX0 HSN HNM
  go_wp2_with (go_at_call 215; refine (a_Shape i.op _).mono ?_; rintro e w' ⟨rfl, rfl⟩; rw [<- HS.out])
  go_loopw [3, 5] (fun v k5 wr => ∃ (K : Nat) (X : ByteArray), K <= S.size /\ X.size <= 40 + 60 * K /\ v = .string X /\ k5 = .int .i64 K /\ Hid (Ized i w wr) /\ Hid (T = X.data.toList ++ Byt.sepT ((S.data.toList.map UInt8.toNat).drop K) (decide (0 < K)) i)) (fun _ k5 _ => S.size - (intOf k5).toNat)
  case atStart => exact ⟨0, X0, by omega, by omega, rfl, rfl, hide1 (Ized.start i w _), hT0⟩
  case round =>
   obtain ⟨K, X, hK, hXs, rfl, rfl, hz, hh⟩ := hrel
   clear hT0 hX0s
   by_cases hlt : K < S.size
   . rw [drop_sh S K hlt, sep_cons] at hh
     obtain ⟨c, hc⟩ := zn1 (S[K].toNat)
     rw [<- hc] at hh
     have hcl := hSc.out K hlt
     rw [<- hc] at hcl
     have hci : S[K].toNat = c := hc.symm
     have HCL := hide1 hcl
     clear hc hcl
     obtain ⟨X1, hX1⟩ := zn1 (if 0 < K then X ++ ⟨#[44, 32]⟩ else X ++ ⟨#[32]⟩ : ByteArray)
     have hX1l : X1.data.toList = X.data.toList ++ (if 0 < K then [44, 32] else [32]) := by
      rw [hX1]; split <;> rw [app_list']
     have hX1s : X1.size <= X.size + 2 := by
      have h1 : (⟨#[44, 32]⟩ : ByteArray).size = 2 := rfl
      have h2 : (⟨#[32]⟩ : ByteArray).size = 1 := rfl
      rw [hX1]; split <;> rw [ByteArray.size_append] <;> omega
     have a1 : 0 < K -> ∀ w, (Op.stringOp .add X ⟨#[44, 32]⟩).run prog w = .ok (.string X1) w := fun hk w => add_str (a := X) (b := ⟨#[44, 32]⟩) (c := X1) (by rw [hX1, if_pos hk]) (by have h2 : (⟨#[44, 32]⟩ : ByteArray).size = 2 := rfl; rw [h2]; omega) w
     have a2 : ¬ 0 < K -> ∀ w, (Op.stringOp .add X ⟨#[32]⟩).run prog w = .ok (.string X1) w := fun hk w => add_str (a := X) (b := ⟨#[32]⟩) (c := X1) (by rw [hX1, if_neg hk]) (by have h2 : (⟨#[32]⟩ : ByteArray).size = 1 := rfl; rw [h2]; omega) w
     have A1 := hide1 a1
     have A2 := hide1 a2
     obtain ⟨Y, hY⟩ := zn1 (⟨(Byt.opT c i).toArray⟩ : ByteArray)
     have hYs : Y.size <= 50 := by rw [hY]; exact opT_len c i hi.out
     obtain ⟨X2, hX2⟩ := zn1 (X1 ++ Y : ByteArray)
     have a3 : ∀ w, (Op.stringOp .add X1 Y).run prog w = .ok (.string X2) w := fun w => add_str (a := X1) (b := Y) (c := X2) hX2.symm (by omega) w
     have hX2s : X2.size <= 40 + 60 * (K + 1) := by rw [hX2, ByteArray.size_append]; omega
     have hgo : Hid (T = X2.data.toList ++ Byt.sepT ((S.data.toList.map UInt8.toNat).drop (K + 1)) (decide (0 < K + 1)) i) := by
      show T = _
      rw [hh.out, hX2, app_list', hX1l, hY, decide_eq_true (Nat.succ_pos K)]
      simp only [List.append_assoc]
     have hcall := a_operandText c HCL.out i hi.out wr.drew ((ht.out.more hz.out.below).more (Below.refl _ _).drew)
     rw [show Byt.strV (Byt.opT c i) = .string Y by rw [hY]; rfl] at hcall
     have HCALL := hide1 (hcall.mono fun e w1 h => (⟨h.1, hide1 (hz.out.more ((Below.refl _ _).drew.trans h.2))⟩ : _ /\ Hid (Ized i w w1)))
     unfold insV at HCALL
     clear hh hX1 hX1l a1 a2 hY hX2 hcall
     go_upto_if 25 with fail
     go_cut [3] from 25 to 29 (fun v wx => v = .string X1 /\ wx = wr)
     case first =>
      by_cases hk : 0 < K
      . have e1 : ((K : Int) == 0) = false := by simp; omega
        have e2 : (K == 0) = false := by simp; omega
        have b1 := A1.out hk
        clear A1 A2 a3
        exact zq358
      . obtain rfl : K = 0 := by omega
        have b1 := A2.out hk
        clear A1 A2 a3
        exact zq358
     case rest =>
      obtain ⟨rfl, rfl⟩ := hcut
      clear A1 A2
      have z0 := hz.out.c0
      have z1 := hz.out.c1
      have z2 := hz.out.c2
      have z3 := hz.out.c3
      have z4 := hz.out.c4
      have z5 := hz.out.c5
      go_upto_region 11 with fail
      go_region_with (go_at_call 216; with_reducible refine HCALL.out.mono ?_; rintro e w1 ⟨rfl, hz1⟩)
      all_goals clear z0 z1 z2 z3 z4 z5 HCALL a3 hz
      all_goals go_wp2
      all_goals go_roundw
      all_goals first
       | exact ⟨K + 1, X2, by omega, hX2s, rfl, by go_num, hz1, hgo⟩
       | (simp [intOf]; omega)
       | ((repeat apply Exists.intro); exact ⟨⟨K + 1, X2, by omega, hX2s, rfl, by go_num, hz1, hgo⟩, rfl⟩)
   . have hlt' : decide ((K : Int) < (S.size : Int)) = false := by simp; omega
     have hgo : Hid (T = X.data.toList) := by
      show T = _
      rw [hh.out, List.drop_eq_nil_of_le (by rw [List.length_map, Array.length_toList]; show S.size <= K; omega)]; simp [Byt.sepT]
     clear hh
     go_wp2
     go_ret
     exact ⟨by rw [hgo.out]; unfold Byt.strV; rw [mk_list]; rfl, hz.out.below⟩
theorem a_Text (x : Int) (hx : Hid ((decodeD x).2 = 0 -> Tame (decodeD x).1 /\ 0 <= (decodeD x).1.op /\ (decodeD x).1.op <= 70 /\ 0 <= x /\ x <= 4294967295)) (w : World) (ht : Hid (Tb w)) :
 CB 88 #[.int .i64 x] (.tuple #[Byt.strV (Byt.textD x).1, .int .i64 (Byt.textD x).2]) w := by
 obtain ⟨T, hT⟩ := zn1 (Byt.textD x)
 rw [<- hT]
 unfold Byt.textD at hT
 have hdec := i_Decode x w
 obtain ⟨D, hD⟩ := zn1 (decodeD x)
 rw [<- hD] at hdec hT hx
 have HDEC := hide1 hdec
 clear hdec hD
 obtain ⟨i, er⟩ := D
 simp only at hT hx
 unfold insV at HDEC
 by_cases her : er = 0
 . have her' : (er != 0) = false := by simp [her]
   rw [if_pos her] at hT
   obtain ⟨hi, ho0, ho70, hx0, hx1⟩ := hx.out her
   obtain ⟨o, ho⟩ : ∃ o : Nat, i.op = o := ⟨i.op.toNat, by omega⟩
   have hit := fun W hW => a_insText i (hide1 hi) o ho (by omega) W hW
   have hdt := fun W hW => a_dataText x (by omega) (by omega) i.ln W hW
   have henc := fun W => i_Encode i W
   obtain ⟨V, hV⟩ := zn1 (encodeD i)
   rw [<- hV] at henc hT
   obtain ⟨A, hA⟩ := zn1 (Byt.strV (Byt.insT i))
   obtain ⟨B, hB⟩ := zn1 (Byt.strV (Byt.nmL (if i.ln = 2 then 72 else 71) ++ 32 :: Lib.itoa x))
   rw [<- hA] at hit
   rw [<- hB] at hdt
   have HIT := hide1 hit
   have HDT := hide1 hdt
   have HENC := hide1 henc
   have HA := hide1 hA
   have HB := hide1 hB
   unfold insV at HIT HENC
   clear hit hdt henc hV hA hB hi ho0 ho70 hx her ho
   obtain ⟨v, no⟩ := V
   simp only at hT
   go_enter func88, ntmps88
   go_wp2_with fail
   refine HDEC.out.mono ?_
   rintro e w1 ⟨rfl, hb1⟩
   clear HDEC
   have hz1 : Ized i w1 (w1.alloc (.cells #[.int .i64 i.op, .int .i64 i.rd, .int .i64 i.rs1, .int .i64 i.rs2, .int .i64 i.im, .int .i64 i.ln] 60)) := Ized.start i w1 _
   have HZ1 := hide1 hz1
   clear hz1
   go_wp2_with fail
   refine (HENC.out _).mono ?_
   rintro e w2 ⟨rfl, hb2⟩
   have hz2 := HZ1.out.more hb2
   have z0 := hz2.c0
   have z1 := hz2.c1
   have z2 := hz2.c2
   have z3 := hz2.c3
   have z4 := hz2.c4
   have z5 := hz2.c5
   have hb12 := hide1 (hb1.trans (hz2.below.mono hb1.size))
   have ht2 := hide1 (ht.out.more hb12.out)
   clear HZ1 hz2 hb1 hb2 HENC
   by_cases hno : no = 0
   . have hno' : (no != 0) = false := by simp [hno]
     by_cases hv : v = x
     . have hv' : (v != x) = false := by simp [hv]
       rw [if_pos ⟨hno, hv⟩] at hT
       have HT := hide1 hT
       clear hT hno
       have hv2 := hide1 hv
       clear hv
       go_wp2_with (go_at_call 143; refine (HIT.out _ ht2).mono ?_; rintro e w3 ⟨rfl, hb3⟩)
       go_ret2
       exact ⟨by rw [HT.out, HA.out]; rfl, hb12.out.trans (hb3.mono hb12.out.size)⟩
     . have hv' : (v != x) = true := by simp [hv]
       rw [if_neg (fun h => hv h.2)] at hT
       have HT := hide1 hT
       clear hT hno hv
       exact zq374
   . have hno' : (no != 0) = true := by simp [hno]
     rw [if_neg (fun h => hno h.1)] at hT
     have HT := hide1 hT
     clear hT hno
     exact zq374
 . have her' : (er != 0) = true := by simp [her]
   rw [if_neg her] at hT
   have HT := hide1 hT
   clear hT her
   go_enter func88, ntmps88
   go_wp2_with fail
   refine HDEC.out.mono ?_
   rintro e w1 ⟨rfl, hb1⟩
   go_wp2
   go_ret2
   exact ⟨by rw [HT.out]; rfl, hb1.alloc hb1.size _⟩
theorem decode_ways (x : Int) : (decodeD x = (ins0, 2) /\ sizeOf x = 0) \/ ∃ W : Nat, x = W /\ W < 4294967296 /\
 ((sizeOf x = 4 /\ (decodeD x = (⟨0, 0, 0, 0, 0, 4⟩, 0) \/ ∃ n : Nat, 1 <= n /\ n <= 70 /\ rowFits (Tab.longRow n) W = true /\ decodeD x = (rowIns (Tab.longRow n) W, 0))) \/
  (sizeOf x = 2 /\ W < 65536 /\ ¬ W % 4 = 3 /\ (decodeD x = (⟨0, 0, 0, 0, 0, 2⟩, 0) \/ ∃ n : Nat, 1 <= n /\ n <= 26 /\ rowFits (Tab.shortRow n) W = true /\ decodeD x = (rowIns (Tab.shortRow n) W, 0)))) := by
 rcases size_ways x with h | ⟨h, h0, h1⟩
 . left
   exact ⟨by unfold decodeD; rw [if_pos h], h⟩
 . right
   obtain ⟨W, rfl⟩ := Int.eq_ofNat_of_zero_le h0
   refine ⟨W, rfl, by omega, ?_⟩
   rcases h with h | h
   . left
     refine ⟨h, ?_⟩
     unfold decodeD
     rw [h, if_neg (by decide), Int.toNat_natCast]
     cases hs : scan (rowMeans 4 W) 1 (rowCount 4).toNat with
     | none => left; rfl
     | some j =>
      right
      obtain ⟨k, k1, k2, k3⟩ := scan_someE _ _ hs
      have hc : (rowCount 4).toNat = 70 := rfl
      rw [hc] at k2
      unfold rowMeans at k3
      split at k3
      . exact zq375
      . cases k3
   . right
     have hw : W <= 65535 /\ ¬ W % 4 = 3 := by
      unfold sizeOf at h
      split at h
      . cases h
      . split at h
        . cases h
        . split at h
          . omega
          . cases h
     refine ⟨h, by omega, hw.2, ?_⟩
     unfold decodeD
     rw [h, if_neg (by decide), Int.toNat_natCast]
     cases hs : scan (rowMeans 2 W) 1 (rowCount 2).toNat with
     | none => left; rfl
     | some j =>
      right
      obtain ⟨k, k1, k2, k3⟩ := scan_someE _ _ hs
      have hc : (rowCount 2).toNat = 26 := rfl
      rw [hc] at k2
      unfold rowMeans at k3
      split at k3
      . exact zq375
      . cases k3
def bnd (c : UInt8) (q : List UInt8) : Nat := if Pic.cnt (· == c) q = 0 then 0 else if Pic.cnt (· == c) q = 3 then 15 else 2 ^ Pic.cnt (· == c) q - 1
theorem reg_bnd (s : ByteArray) (c : UInt8) (W : Nat) : regOf s c W <= bnd c (Pic.rv s.data.toList s.size) := by
 have h := Pic.val_lt (· == c) (Pic.rv s.data.toList s.size) W
 unfold regOf bnd
 exact zq321
def rowTame (t : Int × ByteArray × Int) : Bool :=
 let q := Pic.rv t.2.1.data.toList t.2.1.size
 let sh := (Nm.shape t.1).data.toList.map UInt8.toNat
 decide (1 <= t.1) && decide (t.1 <= 70) && decide (0 <= toldRd t.2.2) && decide ((bnd 68 q : Int) + bnd 66 q + toldRd t.2.2 <= 31) && decide (0 <= toldRs1 t.2.2) && decide ((bnd 83 q : Int) + bnd 66 q + toldRs1 t.2.2 <= 31) && decide (bnd 84 q <= 31) && decide (Pic.most q < 4294967296) && decide (Pic.high q < 4294967296) &&
 (sh.contains 100 || decide ((bnd 68 q : Int) + bnd 66 q + toldRd t.2.2 = 0)) && (sh.contains 115 || sh.contains 109 || sh.contains 117 || decide ((bnd 83 q : Int) + bnd 66 q + toldRs1 t.2.2 = 0)) && (sh.contains 116 || decide (bnd 84 q = 0)) && (sh.contains 105 || sh.contains 106 || sh.contains 109 || (decide (Pic.most q = 0) && decide (Pic.high q = 0)))
theorem longs_tame : ((List.range 71).all fun n => n == 0 || rowTame (Tab.longRow n)) = true := by decide +kernel
theorem shorts_tame : ((List.range 27).all fun n => n == 0 || rowTame (Tab.shortRow n)) = true := by decide +kernel
theorem imm_tame (s : ByteArray) (neg : Bool) (W : Nat) (h1 : Pic.most (Pic.rv s.data.toList s.size) < 4294967296) (h2 : Pic.high (Pic.rv s.data.toList s.size) < 4294967296) : -10000000000 < immOf s neg W /\ immOf s neg W < 10000000000 := zq322
theorem imm_zero (s : ByteArray) (neg : Bool) (W : Nat) (h1 : Pic.most (Pic.rv s.data.toList s.size) = 0) (h2 : Pic.high (Pic.rv s.data.toList s.size) = 0) : immOf s neg W = 0 := by
 have a := Pic.sum_le_most (Pic.rv s.data.toList s.size) W
 unfold immOf
 rw [Pic.imm_of, h2]
 split <;> omega
structure Real (i : Ins) (o : Nat) : Prop where
 op : i.op = o
 o1 : 1 <= o
 o70 : o <= 70
 tame : Tame i
 rd : 100 ∈ Byt.shp o \/ i.rd = 0
 rs1 : 115 ∈ Byt.shp o \/ 109 ∈ Byt.shp o \/ 117 ∈ Byt.shp o \/ i.rs1 = 0
 rs2 : 116 ∈ Byt.shp o \/ i.rs2 = 0
 im : 105 ∈ Byt.shp o \/ 106 ∈ Byt.shp o \/ 109 ∈ Byt.shp o \/ i.im = 0
theorem row_real (t : Int × ByteArray × Int) (h : rowTame t = true) (W : Nat) : ∃ o, Real (rowIns t W) o := by
 obtain ⟨a, s, r⟩ := t
 have b68 := reg_bnd s 68 W
 have b66 := reg_bnd s 66 W
 have b83 := reg_bnd s 83 W
 have b84 := reg_bnd s 84 W
 simp only [rowTame, Bool.and_eq_true, Bool.or_eq_true, decide_eq_true_eq, List.contains_iff_mem] at h
 obtain ⟨⟨⟨⟨⟨⟨⟨⟨⟨⟨⟨⟨h1, h2⟩, h3⟩, h4⟩, h5⟩, h6⟩, h7⟩, h8⟩, h9⟩, h10⟩, h11⟩, h12⟩, h13⟩ := h
 have him := imm_tame s (hasB r 1) W h8 h9
 obtain ⟨o, rfl⟩ := Int.eq_ofNat_of_zero_le (show 0 <= a by omega)
 refine ⟨o, rfl, by omega, by omega, ⟨?_, ?_, ?_, ?_, ?_, ?_, him.1, him.2⟩, ?_, ?_, ?_, ?_⟩
 . show (0 : Int) <= regOf s 68 W + regOf s 66 W + toldRd r; omega
 . show (regOf s 68 W : Int) + regOf s 66 W + toldRd r < 32; omega
 . show (0 : Int) <= regOf s 83 W + regOf s 66 W + toldRs1 r; omega
 . show (regOf s 83 W : Int) + regOf s 66 W + toldRs1 r < 32; omega
 . show (0 : Int) <= regOf s 84 W; omega
 . show (regOf s 84 W : Int) < 32; omega
 . rcases h10 with h | h
   . exact .inl h
   . exact .inr (by show (regOf s 68 W : Int) + regOf s 66 W + toldRd r = 0; omega)
 . rcases h11 with ((h | h) | h) | h
   . exact .inl h
   . exact .inr (.inl h)
   . exact .inr (.inr (.inl h))
   . exact .inr (.inr (.inr (by show (regOf s 83 W : Int) + regOf s 66 W + toldRs1 r = 0; omega)))
 . rcases h12 with h | h
   . exact .inl h
   . exact .inr (by show (regOf s 84 W : Int) = 0; omega)
 . rcases h13 with ((h | h) | h) | h
   . exact .inl h
   . exact .inr (.inl h)
   . exact .inr (.inr (.inl h))
   . exact .inr (.inr (.inr (imm_zero s (hasB r 1) W h.1 h.2)))
theorem long_real (n W : Nat) (h1 : 1 <= n) (h2 : n <= 70) : ∃ o, Real (rowIns (Tab.longRow n) W) o := by
 have h := List.all_eq_true.1 longs_tame n (by simp; omega)
 exact zq376
theorem short_real (n W : Nat) (h1 : 1 <= n) (h2 : n <= 26) : ∃ o, Real (rowIns (Tab.shortRow n) W) o := by
 have h := List.all_eq_true.1 shorts_tame n (by simp; omega)
 exact zq376
theorem tame_im (o im n : Int) (h0 : -10000000000 < im) (h1 : im < 10000000000) : Tame ⟨o, 0, 0, 0, im, n⟩ := ⟨Int.le_refl 0, (show (0 : Int) < 32 by decide), Int.le_refl 0, (show (0 : Int) < 32 by decide), Int.le_refl 0, (show (0 : Int) < 32 by decide), h0, h1⟩
theorem tame0 (n : Int) : Tame ⟨0, 0, 0, 0, 0, n⟩ := tame_im 0 0 n (by decide) (by decide)
theorem decode_tame (x : Int) : (decodeD x).2 = 0 -> Tame (decodeD x).1 /\ 0 <= (decodeD x).1.op /\ (decodeD x).1.op <= 70 /\ 0 <= x /\ x <= 4294967295 := by
 intro h
 rcases decode_ways x with ⟨hd, _⟩ | ⟨W, hx, hW, hc⟩
 . rw [hd] at h; cases h
 . have hr : ∀ i o, Real i o -> Tame i /\ 0 <= i.op /\ i.op <= 70 := fun i o hr => ⟨hr.tame, by have := hr.op; omega, by have := hr.op; have := hr.o70; omega⟩
   rcases hc with ⟨hz, hc⟩ | ⟨hz, hW2, h3, hc⟩
   . rcases hc with hd | ⟨n, n1, n2, hf, hd⟩
     . exact zq377
     . obtain ⟨o, ho⟩ := long_real n W n1 n2
       exact zq378
   . rcases hc with hd | ⟨n, n1, n2, hf, hd⟩
     . exact zq377
     . obtain ⟨o, ho⟩ := short_real n W n1 n2
       exact zq378
theorem a_Text' (x : Int) (w : World) (ht : Hid (Tb w)) :
 CB 88 #[.int .i64 x] (.tuple #[Byt.strV (Byt.textD x).1, .int .i64 (Byt.textD x).2]) w := a_Text x (decode_tame x) w ht
theorem neq_ins (a0 a1 a2 a3 a4 a5 b0 b1 b2 b3 b4 b5 : Int) (w : World) :
 (binOp .neq 60 (.agg #[.int .i64 a0, .int .i64 a1, .int .i64 a2, .int .i64 a3, .int .i64 a4, .int .i64 a5]) (.agg #[.int .i64 b0, .int .i64 b1, .int .i64 b2, .int .i64 b3, .int .i64 b4, .int .i64 b5])).run prog w =
   .ok (.bool (!(a0 == b0 && a1 == b1 && a2 == b2 && a3 == b3 && a4 == b4 && a5 == b5))) w := by
 rw [run_neq_struct, show (10000 : Nat) = 9998 + 1 + 1 from rfl, run_equalIn_agg w (9998 + 1) 60 _ _ und_ins stood_ins, eqFields_ins 9998 _ _ _ _ _ _ _ _ _ _ _ _ _ fields_ins]
 rfl
namespace Gold
def rows : List (Nat × List UInt8) := [
 (19, [97, 100, 100, 105, 32, 120, 48, 44, 32, 120, 48, 44, 32, 48]),
 (32871, [106, 97, 108, 114, 32, 120, 48, 44, 32, 48, 40, 120, 49, 41]),
 (115, [101, 99, 97, 108, 108]),
 (1048691, [101, 98, 114, 101, 97, 107]),
 (807403635, [109, 114, 101, 116]),
 (270532723, [115, 114, 101, 116]),
 (273678451, [119, 102, 105]),
 (301990003, [115, 102, 101, 110, 99, 101, 46, 118, 109, 97, 32, 120, 48, 44, 32, 120, 48]),
 (4111, [102, 101, 110, 99, 101, 46, 105, 32, 120, 48, 44, 32, 120, 48, 44, 32, 48]),
 (267386895, [102, 101, 110, 99, 101, 32, 120, 48, 44, 32, 120, 48, 44, 32, 50, 53, 53]),
 (4261478675, [97, 100, 100, 105, 32, 120, 50, 44, 32, 120, 50, 44, 32, 45, 51, 50]),
 (1125923, [115, 119, 32, 120, 49, 44, 32, 50, 56, 40, 120, 50, 41]),
 (29433987, [108, 119, 32, 120, 49, 44, 32, 50, 56, 40, 120, 50, 41]),
 (4272172579, [115, 119, 32, 120, 49, 48, 44, 32, 45, 52, 40, 120, 56, 41]),
 (4274268035, [108, 119, 32, 120, 49, 53, 44, 32, 45, 50, 48, 40, 120, 56, 41]),
 (111, [106, 97, 108, 32, 120, 48, 44, 32, 48]),
 (4284477551, [106, 97, 108, 32, 120, 48, 44, 32, 45, 49, 50]),
 (4194543, [106, 97, 108, 32, 120, 49, 44, 32, 52]),
 (4261912291, [98, 110, 101, 32, 120, 49, 53, 44, 32, 120, 48, 44, 32, 45, 52]),
 (492643, [98, 101, 113, 32, 120, 49, 53, 44, 32, 120, 48, 44, 32, 56]),
 (16208995, [98, 103, 101, 32, 120, 49, 52, 44, 32, 120, 49, 53, 44, 32, 56]),
 (16213091, [98, 108, 116, 117, 32, 120, 49, 52, 44, 32, 120, 49, 53, 44, 32, 56]),
 (4273278691, [98, 101, 113, 32, 120, 49, 48, 44, 32, 120, 49, 49, 44, 32, 45, 52]),
 (4047512947, [99, 115, 114, 114, 115, 32, 120, 49, 48, 44, 32, 51, 56, 54, 48, 44, 32, 120, 48]),
 (402985075, [99, 115, 114, 114, 119, 32, 120, 48, 44, 32, 51, 56, 52, 44, 32, 120, 49, 48]),
 (873795699, [99, 115, 114, 114, 119, 32, 120, 48, 44, 32, 56, 51, 51, 44, 32, 120, 49, 48]),
 (805597299, [99, 115, 114, 114, 99, 105, 32, 120, 48, 44, 32, 55, 54, 56, 44, 32, 56]),
 (805593203, [99, 115, 114, 114, 115, 105, 32, 120, 48, 44, 32, 55, 54, 56, 44, 32, 56]),
 (3221235059, [99, 115, 114, 114, 115, 32, 120, 49, 48, 44, 32, 51, 48, 55, 50, 44, 32, 120, 48]),
 (12944691, [97, 100, 100, 32, 120, 49, 48, 44, 32, 120, 49, 49, 44, 32, 120, 49, 50]),
 (1086686515, [115, 117, 98, 32, 120, 49, 48, 44, 32, 120, 49, 49, 44, 32, 120, 49, 50]),
 (46499123, [109, 117, 108, 32, 120, 49, 48, 44, 32, 120, 49, 49, 44, 32, 120, 49, 50]),
 (46519603, [100, 105, 118, 117, 32, 120, 49, 48, 44, 32, 120, 49, 49, 44, 32, 120, 49, 50]),
 (49772467, [114, 101, 109, 117, 32, 120, 49, 53, 44, 32, 120, 49, 52, 44, 32, 120, 49, 53]),
 (1106597139, [115, 114, 97, 105, 32, 120, 49, 48, 44, 32, 120, 49, 48, 44, 32, 51, 49]),
 (509187, [108, 98, 117, 32, 120, 49, 48, 44, 32, 48, 40, 120, 49, 53, 41]),
 (268436791, [108, 117, 105, 32, 120, 49, 48, 44, 32, 54, 53, 53, 51, 54]),
 (279, [97, 117, 105, 112, 99, 32, 120, 50, 44, 32, 48]),
 (212182319, [97, 109, 111, 115, 119, 97, 112, 46, 119, 32, 120, 49, 48, 44, 32, 120, 49, 48, 44, 32, 120, 49, 49, 44, 32, 50]),
 (268805423, [108, 114, 46, 119, 32, 120, 49, 48, 44, 32, 120, 49, 49, 44, 32, 48]),
 (415606063, [115, 99, 46, 119, 32, 120, 49, 48, 44, 32, 120, 49, 50, 44, 32, 120, 49, 49, 44, 32, 48]),
 (1, [99, 46, 97, 100, 100, 105, 32, 120, 48, 44, 32, 120, 48, 44, 32, 48]),
 (32898, [99, 46, 106, 97, 108, 114, 32, 120, 48, 44, 32, 48, 40, 120, 49, 41]),
 (36866, [99, 46, 101, 98, 114, 101, 97, 107]),
 (4353, [99, 46, 97, 100, 100, 105, 32, 120, 50, 44, 32, 120, 50, 44, 32, 45, 51, 50]),
 (4417, [99, 46, 97, 100, 100, 105, 32, 120, 50, 44, 32, 120, 50, 44, 32, 45, 49, 54]),
 (321, [99, 46, 97, 100, 100, 105, 32, 120, 50, 44, 32, 120, 50, 44, 32, 49, 54]),
 (2048, [99, 46, 97, 100, 100, 105, 32, 120, 56, 44, 32, 120, 50, 44, 32, 49, 54]),
 (4096, [99, 46, 97, 100, 100, 105, 32, 120, 56, 44, 32, 120, 50, 44, 32, 51, 50]),
 (29049, [99, 46, 97, 100, 100, 105, 32, 120, 50, 44, 32, 120, 50, 44, 32, 45, 52, 56]),
 (24901, [99, 46, 97, 100, 100, 105, 32, 120, 50, 44, 32, 120, 50, 44, 32, 52, 56]),
 (29021, [99, 46, 97, 100, 100, 105, 32, 120, 50, 44, 32, 120, 50, 44, 32, 45, 56, 48]),
 (24929, [99, 46, 97, 100, 100, 105, 32, 120, 50, 44, 32, 120, 50, 44, 32, 56, 48]),
 (24865, [99, 46, 97, 100, 100, 105, 32, 120, 50, 44, 32, 120, 50, 44, 32, 54, 52]),
 (24841, [99, 46, 97, 100, 100, 105, 32, 120, 50, 44, 32, 120, 50, 44, 32, 49, 50, 56]),
 (28953, [99, 46, 97, 100, 100, 105, 32, 120, 50, 44, 32, 120, 50, 44, 32, 45, 49, 50, 56]),
 (52742, [99, 46, 115, 119, 32, 120, 49, 44, 32, 50, 56, 40, 120, 50, 41]),
 (50694, [99, 46, 115, 119, 32, 120, 49, 44, 32, 49, 50, 40, 120, 50, 41]),
 (50210, [99, 46, 115, 119, 32, 120, 56, 44, 32, 56, 40, 120, 50, 41]),
 (49702, [99, 46, 115, 119, 32, 120, 57, 44, 32, 52, 40, 120, 50, 41]),
 (54790, [99, 46, 115, 119, 32, 120, 49, 44, 32, 52, 52, 40, 120, 50, 41]),
 (16626, [99, 46, 108, 119, 32, 120, 49, 44, 32, 50, 56, 40, 120, 50, 41]),
 (16562, [99, 46, 108, 119, 32, 120, 49, 44, 32, 49, 50, 40, 120, 50, 41]),
 (17442, [99, 46, 108, 119, 32, 120, 56, 44, 32, 56, 40, 120, 50, 41]),
 (17554, [99, 46, 108, 119, 32, 120, 57, 44, 32, 52, 40, 120, 50, 41]),
 (20658, [99, 46, 108, 119, 32, 120, 49, 44, 32, 52, 52, 40, 120, 50, 41]),
 (50072, [99, 46, 115, 119, 32, 120, 49, 52, 44, 32, 48, 40, 120, 49, 53, 41]),
 (17304, [99, 46, 108, 119, 32, 120, 49, 52, 44, 32, 48, 40, 120, 49, 53, 41]),
 (50136, [99, 46, 115, 119, 32, 120, 49, 52, 44, 32, 52, 40, 120, 49, 53, 41]),
 (17368, [99, 46, 108, 119, 32, 120, 49, 52, 44, 32, 52, 40, 120, 49, 53, 41]),
 (17665, [99, 46, 97, 100, 100, 105, 32, 120, 49, 48, 44, 32, 120, 48, 44, 32, 48]),
 (17669, [99, 46, 97, 100, 100, 105, 32, 120, 49, 48, 44, 32, 120, 48, 44, 32, 49]),
 (34110, [99, 46, 97, 100, 100, 32, 120, 49, 48, 44, 32, 120, 48, 44, 32, 120, 49, 53]),
 (38842, [99, 46, 97, 100, 100, 32, 120, 49, 53, 44, 32, 120, 49, 53, 44, 32, 120, 49, 52]),
 (38786, [99, 46, 106, 97, 108, 114, 32, 120, 49, 44, 32, 48, 40, 120, 49, 53, 41]),
 (34690, [99, 46, 106, 97, 108, 114, 32, 120, 48, 44, 32, 48, 40, 120, 49, 53, 41]),
 (1925, [99, 46, 97, 100, 100, 105, 32, 120, 49, 53, 44, 32, 120, 49, 53, 44, 32, 49]),
 (6141, [99, 46, 97, 100, 100, 105, 32, 120, 49, 53, 44, 32, 120, 49, 53, 44, 32, 45, 49]),
 (35717, [99, 46, 97, 110, 100, 105, 32, 120, 49, 53, 44, 32, 120, 49, 53, 44, 32, 49]),
 (33677, [99, 46, 115, 114, 108, 105, 32, 120, 49, 53, 44, 32, 120, 49, 53, 44, 32, 51]),
 (34705, [99, 46, 115, 114, 97, 105, 32, 120, 49, 53, 44, 32, 120, 49, 53, 44, 32, 52]),
 (1934, [99, 46, 115, 108, 108, 105, 32, 120, 49, 53, 44, 32, 120, 49, 53, 44, 32, 51]),
 (36761, [99, 46, 115, 117, 98, 32, 120, 49, 53, 44, 32, 120, 49, 53, 44, 32, 120, 49, 52]),
 (36793, [99, 46, 120, 111, 114, 32, 120, 49, 53, 44, 32, 120, 49, 53, 44, 32, 120, 49, 52]),
 (36825, [99, 46, 111, 114, 32, 120, 49, 53, 44, 32, 120, 49, 53, 44, 32, 120, 49, 52]),
 (36857, [99, 46, 97, 110, 100, 32, 120, 49, 53, 44, 32, 120, 49, 53, 44, 32, 120, 49, 52]),
 (26569, [99, 46, 108, 117, 105, 32, 120, 49, 53, 44, 32, 49, 56]),
 (30717, [99, 46, 108, 117, 105, 32, 120, 49, 53, 44, 32, 45, 49]),
 (50065, [99, 46, 98, 101, 113, 32, 120, 49, 53, 44, 32, 120, 48, 44, 32, 52]),
 (58257, [99, 46, 98, 110, 101, 32, 120, 49, 53, 44, 32, 120, 48, 44, 32, 52]),
 (40961, [99, 46, 106, 97, 108, 32, 120, 48, 44, 32, 48]),
 (40977, [99, 46, 106, 97, 108, 32, 120, 48, 44, 32, 52]),
 (49093, [99, 46, 106, 97, 108, 32, 120, 48, 44, 32, 45, 49, 54]),
 (8193, [99, 46, 106, 97, 108, 32, 120, 49, 44, 32, 48]),
 (0, [46, 104, 97, 108, 102, 32, 48]),
 (39937, [46, 104, 97, 108, 102, 32, 51, 57, 57, 51, 55])]
def w (k : Nat) : Nat := (rows[k]?.getD (0, [])).1
def l (k : Nat) : List UInt8 := (rows[k]?.getD (0, [])).2
end Gold
def KnP (k : Int) (j : Nat) (w : World) : Prop := CS 100 #[.int .i64 k] (.tuple #[.int .i64 (Gold.w j), Byt.strV (Gold.l j)]) w
end Go.Proofs.YtmlgonbhoknoiabGreatDoor
