import Derived.Test.YtmlgonbhoknoiaaGreatDoorSAQ
set_option maxHeartbeats 8000000
set_option linter.all false
namespace Go.Proofs.YtmlgonbhoknoiaaGreatDoor
open Go.RowKit Go.Proofs.Tryz
namespace Byt
def insT (i : Ins) : List UInt8 := (if i.ln = 2 then 99 :: 46 :: nmL i.op.toNat else nmL i.op.toNat) ++ sepT (shp i.op.toNat) false i
def textD (x : Int) : List UInt8 × Int :=
 if (decodeD x).2 = 0 then
  if (encodeD (decodeD x).1).2 = 0 /\ (encodeD (decodeD x).1).1 = x then (insT (decodeD x).1, 0)
  else (nmL (if (decodeD x).1.ln = 2 then 72 else 71) ++ 32 :: Lib.itoa x, 0)
 else ([], (decodeD x).2)
end Byt
theorem app_list' (X B : ByteArray) : (X ++ B).data.toList = X.data.toList ++ B.data.toList := by
 rw [ByteArray.data_append, Array.toList_append]
theorem opT_len (c : Nat) (i : Ins) (hi : Tame i) : (Byt.opT c i).length <= 50 := by
 have h1 := regName_len i.rd.toNat (by have := hi.d1; omega)
 have h2 := regName_len i.rs1.toNat (by have := hi.s1; omega)
 have h3 := regName_len i.rs2.toNat (by have := hi.t1; omega)
 have h4 := itoa_len i.im (by have := hi.i0; omega) (by have := hi.i1; omega)
 have h5 := itoa_len i.rs1 (by have := hi.s0; omega) (by have := hi.s1; omega)
 unfold Byt.opT
 repeat (first | omega | split | (simp only [List.length_append, List.length_cons, List.length_nil]; omega))
theorem sep_cons (cs : List Nat) (c : Nat) (K : Nat) (i : Ins) : Byt.sepT (c :: cs) (decide (0 < K)) i = (if 0 < K then [44, 32] else [32]) ++ (Byt.opT c i ++ Byt.sepT cs true i) := by
 by_cases h : 0 < K <;> simp [Byt.sepT, h]
theorem a_insText (i : Ins) (hi : Hid (Tame i)) (o : Nat) (ho : i.op = o) (ho70 : o <= 70) (w : World) (ht : Hid (Tb w)) :
 CB 148 #[insV i] (Byt.strV (Byt.insT i)) w := by
 obtain ⟨T, hT⟩ := zn1 (Byt.insT i)
 rw [<- hT]
 unfold Byt.insT at hT
 rw [show i.op.toNat = o by omega] at hT
 obtain ⟨NM, hNM⟩ := zn1 (Nm.name i.op)
 obtain ⟨S, hS⟩ := zn1 (Nm.shape i.op)
 have hSo := shape_ok o (by omega)
 have hSs : Byt.shp o = S.data.toList.map UInt8.toNat := by rw [hS, ho]; rfl
 have hSl : S.size <= 8 := by rw [hS, ho]; exact hSo.1
 have hSc : Hid (∀ k (h : k < S.size), S[k].toNat = 100 \/ S[k].toNat = 115 \/ S[k].toNat = 116 \/ S[k].toNat = 109 \/ S[k].toNat = 106 \/ S[k].toNat = 117 \/ S[k].toNat = 105) := by rw [hS, ho]; exact hSo.2
 rw [hSs] at hT
 have hsh := short_add o (by omega)
 obtain ⟨SN, hSN⟩ := zn1 (⟨(99 :: 46 :: Byt.nmL o).toArray⟩ : ByteArray)
 have hsn := fun w => a_shortName o (by omega) w
 rw [show Byt.strV (99 :: 46 :: Byt.nmL o) = .string SN by rw [hSN]; rfl, <- ho] at hsn
 obtain ⟨X0, hX0⟩ := zn1 (if i.ln = 2 then SN else NM : ByteArray)
 have hnl : (Byt.nmL o).length <= 20 := by have := nm_sz o (by omega); unfold Byt.nmL; rw [Array.length_toList]; exact this
 have hX0s : X0.size <= 40 := by
  rw [hX0]; split
  . rw [hSN]; simp [ByteArray.size]; omega
  . rw [hNM, ho]; have := nm_sz o (by omega); omega
 have hT0 : Hid (T = X0.data.toList ++ Byt.sepT ((S.data.toList.map UInt8.toNat).drop 0) (decide (0 < 0)) i) := by
  show T = _
  rw [hT, hX0]
  split
  . rw [hSN]; rfl
  . rw [hNM, ho]; rfl
 have HNM := hide1 hNM
 have HS := hide1 hS
 have HSN := hide1 hsn
 clear hT hSo hSs hsh hsn hSN hnl hNM hS ho ho70
 unfold insV
 go_enter func148, ntmps148
 go_wp2_with fail
 refine (a_Name i.op _).mono ?_
 rintro e w' ⟨rfl, rfl⟩
 rw [<- HNM.out]
 go_upto_if 11 with fail
 go_cut [3] from 11 to 14 (fun v wx => v = .string X0 /\ wx = w.alloc (.cells #[.int .i64 i.op, .int .i64 i.rd, .int .i64 i.rs1, .int .i64 i.rs2, .int .i64 i.im, .int .i64 i.ln] 53))
 case first =>
  by_cases h2 : i.ln = 2
  . have h2' : (i.ln == 2) = true := by simp [h2]
    rw [if_pos h2] at hX0
    have HX0 := hide1 hX0
    clear hX0 h2
    go_wp2_with (go_at_call 221; refine (HSN.out _).mono ?_; rintro e w' ⟨rfl, rfl⟩)
    go_meet
    case rel => exact ⟨by rw [HX0.out], rfl⟩
  . have h2' : (i.ln == 2) = false := by simp [h2]
    rw [if_neg h2] at hX0
    have HX0 := hide1 hX0
    clear hX0 h2
    go_wp2
    go_meet
    case rel => exact ⟨by rw [HX0.out], rfl⟩
 case rest =>
  obtain ⟨rfl, rfl⟩ := hcut
  clear hX0 HSN HNM
  go_wp2_with (go_at_call 222; refine (a_Shape i.op _).mono ?_; rintro e w' ⟨rfl, rfl⟩; rw [<- HS.out])
  go_loopw [3, 5] (fun v k5 wr => ∃ (K : Nat) (X : ByteArray), K <= S.size /\ X.size <= 40 + 60 * K /\ v = .string X /\ k5 = .int .i64 K /\ Hid (Ized i w wr) /\ Hid (T = X.data.toList ++ Byt.sepT ((S.data.toList.map UInt8.toNat).drop K) (decide (0 < K)) i)) (fun _ k5 _ => S.size - (intOf k5).toNat)
  case atStart => exact ⟨0, X0, by omega, by omega, rfl, rfl, hide1 (Ized.start i w _), hT0⟩
  case round =>
   obtain ⟨K, X, hK, hXs, rfl, rfl, hz, hh⟩ := hrel
   clear hT0 hX0s
   by_cases hlt : K < S.size
   . rw [drop_sh S K hlt, sep_cons] at hh
     obtain ⟨c, hc⟩ := zn1 (S[K].toNat)
     rw [<- hc] at hh
     have hcl := hSc.out K hlt
     rw [<- hc] at hcl
     have hci : S[K].toNat = c := hc.symm
     have HCL := hide1 hcl
     clear hc hcl
     obtain ⟨X1, hX1⟩ := zn1 (if 0 < K then X ++ ⟨#[44, 32]⟩ else X ++ ⟨#[32]⟩ : ByteArray)
     have hX1l : X1.data.toList = X.data.toList ++ (if 0 < K then [44, 32] else [32]) := by
      rw [hX1]; split <;> rw [app_list']
     have hX1s : X1.size <= X.size + 2 := by
      have h1 : (⟨#[44, 32]⟩ : ByteArray).size = 2 := rfl
      have h2 : (⟨#[32]⟩ : ByteArray).size = 1 := rfl
      rw [hX1]; split <;> rw [ByteArray.size_append] <;> omega
     have a1 : 0 < K -> ∀ w, (Op.stringOp .add X ⟨#[44, 32]⟩).run prog w = .ok (.string X1) w := fun hk w => add_str (a := X) (b := ⟨#[44, 32]⟩) (c := X1) (by rw [hX1, if_pos hk]) (by have h2 : (⟨#[44, 32]⟩ : ByteArray).size = 2 := rfl; rw [h2]; omega) w
     have a2 : ¬ 0 < K -> ∀ w, (Op.stringOp .add X ⟨#[32]⟩).run prog w = .ok (.string X1) w := fun hk w => add_str (a := X) (b := ⟨#[32]⟩) (c := X1) (by rw [hX1, if_neg hk]) (by have h2 : (⟨#[32]⟩ : ByteArray).size = 1 := rfl; rw [h2]; omega) w
     have A1 := hide1 a1
     have A2 := hide1 a2
     obtain ⟨Y, hY⟩ := zn1 (⟨(Byt.opT c i).toArray⟩ : ByteArray)
     have hYs : Y.size <= 50 := by rw [hY]; exact opT_len c i hi.out
     obtain ⟨X2, hX2⟩ := zn1 (X1 ++ Y : ByteArray)
     have a3 : ∀ w, (Op.stringOp .add X1 Y).run prog w = .ok (.string X2) w := fun w => add_str (a := X1) (b := Y) (c := X2) hX2.symm (by omega) w
     have hX2s : X2.size <= 40 + 60 * (K + 1) := by rw [hX2, ByteArray.size_append]; omega
     have hgo : Hid (T = X2.data.toList ++ Byt.sepT ((S.data.toList.map UInt8.toNat).drop (K + 1)) (decide (0 < K + 1)) i) := by
      show T = _
      rw [hh.out, hX2, app_list', hX1l, hY, decide_eq_true (Nat.succ_pos K)]
      simp only [List.append_assoc]
     have hcall := a_operandText c HCL.out i hi.out wr.drew ((ht.out.more hz.out.below).more (Below.refl _ _).drew)
     rw [show Byt.strV (Byt.opT c i) = .string Y by rw [hY]; rfl] at hcall
     have HCALL := hide1 (hcall.mono fun e w1 h => (⟨h.1, hide1 (hz.out.more ((Below.refl _ _).drew.trans h.2))⟩ : _ /\ Hid (Ized i w w1)))
     unfold insV at HCALL
     clear hh hX1 hX1l a1 a2 hY hX2 hcall
     go_upto_if 25 with fail
     go_cut [3] from 25 to 29 (fun v wx => v = .string X1 /\ wx = wr)
     case first =>
      by_cases hk : 0 < K
      . have e1 : ((K : Int) == 0) = false := by simp; omega
        have e2 : (K == 0) = false := by simp; omega
        have b1 := A1.out hk
        clear A1 A2 a3
        exact zq360
      . obtain rfl : K = 0 := by omega
        have b1 := A2.out hk
        clear A1 A2 a3
        exact zq360
     case rest =>
      obtain ⟨rfl, rfl⟩ := hcut
      clear A1 A2
      have z0 := hz.out.c0
      have z1 := hz.out.c1
      have z2 := hz.out.c2
      have z3 := hz.out.c3
      have z4 := hz.out.c4
      have z5 := hz.out.c5
      go_upto_region 11 with fail
      go_region_with (go_at_call 223; with_reducible refine HCALL.out.mono ?_; rintro e w1 ⟨rfl, hz1⟩)
      all_goals clear z0 z1 z2 z3 z4 z5 HCALL a3 hz
      all_goals go_wp2
      all_goals go_roundw
      all_goals first
       | exact ⟨K + 1, X2, by omega, hX2s, rfl, by go_num, hz1, hgo⟩
       | (simp [intOf]; omega)
       | ((repeat apply Exists.intro); exact ⟨⟨K + 1, X2, by omega, hX2s, rfl, by go_num, hz1, hgo⟩, rfl⟩)
   . have hlt' : decide ((K : Int) < (S.size : Int)) = false := by simp; omega
     have hgo : Hid (T = X.data.toList) := by
      show T = _
      rw [hh.out, List.drop_eq_nil_of_le (by rw [List.length_map, Array.length_toList]; show S.size <= K; omega)]; simp [Byt.sepT]
     clear hh
     go_wp2
     go_ret
     exact ⟨by rw [hgo.out]; unfold Byt.strV; rw [mk_list]; rfl, hz.out.below⟩
theorem a_Text (x : Int) (hx : Hid ((decodeD x).2 = 0 -> Tame (decodeD x).1 /\ 0 <= (decodeD x).1.op /\ (decodeD x).1.op <= 70 /\ 0 <= x /\ x <= 4294967295)) (w : World) (ht : Hid (Tb w)) :
 CB 91 #[.int .i64 x] (.tuple #[Byt.strV (Byt.textD x).1, .int .i64 (Byt.textD x).2]) w := by
 obtain ⟨T, hT⟩ := zn1 (Byt.textD x)
 rw [<- hT]
 unfold Byt.textD at hT
 have hdec := i_Decode x w
 obtain ⟨D, hD⟩ := zn1 (decodeD x)
 rw [<- hD] at hdec hT hx
 have HDEC := hide1 hdec
 clear hdec hD
 obtain ⟨i, er⟩ := D
 simp only at hT hx
 unfold insV at HDEC
 by_cases her : er = 0
 . have her' : (er != 0) = false := by simp [her]
   rw [if_pos her] at hT
   obtain ⟨hi, ho0, ho70, hx0, hx1⟩ := hx.out her
   obtain ⟨o, ho⟩ : ∃ o : Nat, i.op = o := ⟨i.op.toNat, by omega⟩
   have hit := fun W hW => a_insText i (hide1 hi) o ho (by omega) W hW
   have hdt := fun W hW => a_dataText x (by omega) (by omega) i.ln W hW
   have henc := fun W => i_Encode i W
   obtain ⟨V, hV⟩ := zn1 (encodeD i)
   rw [<- hV] at henc hT
   obtain ⟨A, hA⟩ := zn1 (Byt.strV (Byt.insT i))
   obtain ⟨B, hB⟩ := zn1 (Byt.strV (Byt.nmL (if i.ln = 2 then 72 else 71) ++ 32 :: Lib.itoa x))
   rw [<- hA] at hit
   rw [<- hB] at hdt
   have HIT := hide1 hit
   have HDT := hide1 hdt
   have HENC := hide1 henc
   have HA := hide1 hA
   have HB := hide1 hB
   unfold insV at HIT HENC
   clear hit hdt henc hV hA hB hi ho0 ho70 hx her ho
   obtain ⟨v, no⟩ := V
   simp only at hT
   go_enter func91, ntmps91
   go_wp2_with fail
   refine HDEC.out.mono ?_
   rintro e w1 ⟨rfl, hb1⟩
   clear HDEC
   have hz1 : Ized i w1 (w1.alloc (.cells #[.int .i64 i.op, .int .i64 i.rd, .int .i64 i.rs1, .int .i64 i.rs2, .int .i64 i.im, .int .i64 i.ln] 53)) := Ized.start i w1 _
   have HZ1 := hide1 hz1
   clear hz1
   go_wp2_with fail
   refine (HENC.out _).mono ?_
   rintro e w2 ⟨rfl, hb2⟩
   have hz2 := HZ1.out.more hb2
   have z0 := hz2.c0
   have z1 := hz2.c1
   have z2 := hz2.c2
   have z3 := hz2.c3
   have z4 := hz2.c4
   have z5 := hz2.c5
   have hb12 := hide1 (hb1.trans (hz2.below.mono hb1.size))
   have ht2 := hide1 (ht.out.more hb12.out)
   clear HZ1 hz2 hb1 hb2 HENC
   by_cases hno : no = 0
   . have hno' : (no != 0) = false := by simp [hno]
     by_cases hv : v = x
     . have hv' : (v != x) = false := by simp [hv]
       rw [if_pos ⟨hno, hv⟩] at hT
       have HT := hide1 hT
       clear hT hno
       have hv2 := hide1 hv
       clear hv
       go_wp2_with (go_at_call 148; refine (HIT.out _ ht2).mono ?_; rintro e w3 ⟨rfl, hb3⟩)
       go_ret2
       exact ⟨by rw [HT.out, HA.out]; rfl, hb12.out.trans (hb3.mono hb12.out.size)⟩
     . have hv' : (v != x) = true := by simp [hv]
       rw [if_neg (fun h => hv h.2)] at hT
       have HT := hide1 hT
       clear hT hno hv
       exact zq378
   . have hno' : (no != 0) = true := by simp [hno]
     rw [if_neg (fun h => hno h.1)] at hT
     have HT := hide1 hT
     clear hT hno
     exact zq378
 . have her' : (er != 0) = true := by simp [her]
   rw [if_neg her] at hT
   have HT := hide1 hT
   clear hT her
   go_enter func91, ntmps91
   go_wp2_with fail
   refine HDEC.out.mono ?_
   rintro e w1 ⟨rfl, hb1⟩
   go_wp2
   go_ret2
   exact ⟨by rw [HT.out]; rfl, hb1.alloc hb1.size _⟩
def longOk (n : Nat) : Bool := (longQ n).all Pic.known && Pic.apart (longQ n) && (Pic.cnt (· == 83) (longQ n) == 0 || Pic.cnt (· == 66) (longQ n) == 0)
theorem longs_ok : ((List.range 71).all fun n => n == 0 || longOk n) = true := by decide +kernel
theorem long_more (n : Nat) (h1 : 1 <= n) (h2 : n <= 70) : (longQ n).all Pic.known = true /\ Pic.apart (longQ n) = true /\ (Pic.cnt (· == 83) (longQ n) = 0 \/ Pic.cnt (· == 66) (longQ n) = 0) := by
 have h := List.all_eq_true.1 longs_ok n (by simp; omega)
 rw [Bool.or_eq_true, beq_iff_eq] at h
 rcases h with h | h
 . omega
 . simp only [longOk, Bool.and_eq_true, beq_iff_eq, Bool.or_eq_true] at h
   exact ⟨h.1.1, h.1.2, h.2⟩
theorem long_chk (n : Nat) (h1 : 1 <= n) (h2 : n <= 70) : chk (Tab.longRow n) (TabR.word n) 32 = true := by
 have h := List.all_eq_true.1 chkW n (by simp; omega)
 exact zq346
theorem long_read (n v : Nat) (h1 : 1 <= n) (h2 : n <= 70) (hv : v < 4294967296) (hf : rowFits (Tab.longRow n) v = true) : rowDraw (Tab.longRow n) (rowIns (Tab.longRow n) v) = v := by
 obtain ⟨f4, f5, f7⟩ := long_more n h1 h2
 obtain ⟨_, _, f3⟩ := long_facts n h1 h2
 have hfit := rowFits_fits hf
 have hc := long_chk n h1 h2
 have hp : (2 : Nat) ^ 32 = 4294967296 := by decide
 have hrow := (row_eq hc v (by rw [hp]; exact hv)).1
 simp only [chk, Bool.and_eq_true, beq_iff_eq, decide_eq_true_eq] at hc
 have e := hc.1.1.1.1.1.1.1.1.1.1.2
 have es : (TabR.word n).pic = (Tab.longRow n).2.1 := by
  generalize (TabR.word n).pic = a at *
  generalize (Tab.longRow n).2.1 = b at *
  obtain ⟨a⟩ := a
  obtain ⟨b⟩ := b
  simp only at e
  congr 1
  exact (Array.toList_inj.1 e).symm
 unfold rowDraw
 have hq : Pic.rv (Tab.longRow n).2.1.data.toList (Tab.longRow n).2.1.size = longQ n := rfl
 rw [hq] at hfit |-
 have hlen : (longQ n).length = 32 := by unfold longQ; rw [Pic.rv_length _ _ (by simp), f3]
 refine Pic.draw_read (longQ n) v _ _ _ _ f4 (by rw [hlen, hp]; exact hv) hfit ?_ ?_ ?_ ?_
 . rw [hrow]
   have := regR_mod (fun x => x == 68 || x == 66) (Tab.longRow n).2.1 v (TabR.word n).rd
   rw [hq] at this
   unfold insRf
   simp only
   rw [es]
   exact this
 . rw [hrow]
   unfold insRf
   simp only
   rw [es]
   have h83 := regR_mod (fun x => x == 83 || x == 66) (Tab.longRow n).2.1 v (TabR.word n).rs1
   rw [hq] at h83
   rcases f7 with f7 | f7
   . rw [f7, val_zero 83 _ _ f7]; simp [Int.emod_one]
   . obtain ⟨a, b⟩ := val_or 83 66 (longQ n) v f7
     rw [a, b] at h83
     exact h83
 . rw [hrow]
   unfold insRf
   simp only
   rw [es]
   have := regR_mod (fun x => x == 84) (Tab.longRow n).2.1 v 0
   rw [hq] at this
   exact this
 . intro k hk hl
   have := Pic.imm_bit (longQ n) (hasB (Tab.longRow n).2.2 1) v k hk f5 hl
   exact this
theorem decode_ways (x : Int) : (decodeD x = (ins0, 2) /\ sizeOf x = 0) \/ ∃ W : Nat, x = W /\ W < 4294967296 /\
 ((sizeOf x = 4 /\ (decodeD x = (⟨0, 0, 0, 0, 0, 4⟩, 0) \/ ∃ n : Nat, 1 <= n /\ n <= 70 /\ rowFits (Tab.longRow n) W = true /\ decodeD x = (rowIns (Tab.longRow n) W, 0))) \/
  (sizeOf x = 2 /\ W < 65536 /\ ¬ W % 4 = 3 /\ (decodeD x = (⟨0, 0, 0, 0, 0, 2⟩, 0) \/ ∃ n : Nat, 1 <= n /\ n <= 26 /\ rowFits (Tab.shortRow n) W = true /\ decodeD x = (rowIns (Tab.shortRow n) W, 0)))) := by
 rcases size_ways x with h | ⟨h, h0, h1⟩
 . left
   exact ⟨by unfold decodeD; rw [if_pos h], h⟩
 . right
   obtain ⟨W, rfl⟩ := Int.eq_ofNat_of_zero_le h0
   refine ⟨W, rfl, by omega, ?_⟩
   rcases h with h | h
   . left
     refine ⟨h, ?_⟩
     unfold decodeD
     rw [h, if_neg (by decide), Int.toNat_natCast]
     cases hs : scan (rowMeans 4 W) 1 (rowCount 4).toNat with
     | none => left; rfl
     | some j =>
      right
      obtain ⟨k, k1, k2, k3⟩ := scan_someE _ _ hs
      have hc : (rowCount 4).toNat = 70 := rfl
      rw [hc] at k2
      unfold rowMeans at k3
      split at k3
      . exact zq379
      . cases k3
   . right
     have hw : W <= 65535 /\ ¬ W % 4 = 3 := by
      unfold sizeOf at h
      split at h
      . cases h
      . split at h
        . cases h
        . split at h
          . omega
          . cases h
     refine ⟨h, by omega, hw.2, ?_⟩
     unfold decodeD
     rw [h, if_neg (by decide), Int.toNat_natCast]
     cases hs : scan (rowMeans 2 W) 1 (rowCount 2).toNat with
     | none => left; rfl
     | some j =>
      right
      obtain ⟨k, k1, k2, k3⟩ := scan_someE _ _ hs
      have hc : (rowCount 2).toNat = 26 := rfl
      rw [hc] at k2
      unfold rowMeans at k3
      split at k3
      . exact zq379
      . cases k3
theorem enc_long (n W : Nat) (h1 : 1 <= n) (h2 : n <= 70) (hW : W < 4294967296) (hf : rowFits (Tab.longRow n) W = true) : encodeD (rowIns (Tab.longRow n) W) = ((W : Int), 0) := by
 have hd := long_read n W h1 h2 hW hf
 obtain ⟨i, hi⟩ := zn1 (rowIns (Tab.longRow n) W)
 obtain ⟨f1, _, f3⟩ := long_facts n h1 h2
 have hop : i.op = n := by rw [hi]; exact f1
 have hln : i.ln = 4 := by rw [hi]; show ((Tab.longRow n).2.1.size : Int) / 8 = 4; rw [f3]; rfl
 rw [<- hi] at hd |-
 have e : ∀ k, rowAt i.ln k = Tab.longRow k := by intro k; rw [hln]; rfl
 unfold encodeD
 rw [hln, show (rowCount 4).toNat = 70 from rfl, least_one (k0 := n) 70 1 h1 (by omega)]
 . have : rowWord i n = some W := by
    unfold rowWord
    rw [e n, hd, if_pos ⟨by rw [f1, hop], hf, (same_iff _ _).2 hi.symm⟩]
   rw [this]
 . exact zq345
theorem enc_short (n W : Nat) (h1 : 1 <= n) (h2 : n <= 26) (hW : W < 65536) (h3 : ¬ W % 4 = 3) (hf : rowFits (Tab.shortRow n) W = true) : ∃ v : Nat, encodeD (rowIns (Tab.shortRow n) W) = ((v : Int), 0) /\ v <= W /\ decodeD v = (rowIns (Tab.shortRow n) W, 0) := by
 obtain ⟨i, hi⟩ := zn1 (rowIns (Tab.shortRow n) W)
 obtain ⟨f1, f2, f3, _⟩ := short_facts n h1 h2
 have hop : 1 <= i.op := by rw [hi]; exact f1
 have hln : i.ln = 2 := by rw [hi]; show ((Tab.shortRow n).2.1.size : Int) / 8 = 2; rw [f3]; rfl
 have hdec := short_decode h1 h2 hW hf
 rw [<- hi] at hdec |-
 obtain ⟨k, k1, k2, k3⟩ := wordsB hln W hW ⟨h3, (same_iff _ _).2 hdec.2⟩ hop
 obtain ⟨l1, l2⟩ := least_spec (i := i) 26 1 none
 cases hL : least i none 1 26 with
 | none => rw [(l2 hL).2 k k1 (by omega)] at k3; cases k3
 | some b =>
  obtain ⟨p1, _, p3⟩ := l1 b hL
  have hb : b < 65536 /\ (b % 4 ≠ 3 /\ sameB (decodeR b).1 i = true) := by
   rcases p1 with h | ⟨k, k1, k2, k3⟩
   . cases h
   . have := wordsA hln k b k1 (by omega) k3; exact ⟨this.1, this.2.1⟩
  refine ⟨b, ?_, p3 k W k1 (by omega) k3, ?_⟩
  . unfold encodeD
    rw [hln, show (rowCount 2).toNat = 26 from rfl, hL]
  . have e1 : (decodeD b).1 = i := by rw [decode_eq]; exact (same_iff _ _).1 hb.2.2
    have e2 : (decodeD b).2 = 0 := by
     unfold decodeD
     have hsz : sizeOf (b : Int) = 2 := zq136
     rw [hsz, if_neg (by decide)]
     split <;> rfl
    rw [<- e1, <- e2]
def bnd (c : UInt8) (q : List UInt8) : Nat := if Pic.cnt (· == c) q = 0 then 0 else if Pic.cnt (· == c) q = 3 then 15 else 2 ^ Pic.cnt (· == c) q - 1
theorem reg_bnd (s : ByteArray) (c : UInt8) (W : Nat) : regOf s c W <= bnd c (Pic.rv s.data.toList s.size) := by
 have h := Pic.val_lt (· == c) (Pic.rv s.data.toList s.size) W
 unfold regOf bnd
 exact zq322
def rowTame (t : Int × ByteArray × Int) : Bool :=
 let q := Pic.rv t.2.1.data.toList t.2.1.size
 let sh := (Nm.shape t.1).data.toList.map UInt8.toNat
 decide (1 <= t.1) && decide (t.1 <= 70) && decide (0 <= toldRd t.2.2) && decide ((bnd 68 q : Int) + bnd 66 q + toldRd t.2.2 <= 31) && decide (0 <= toldRs1 t.2.2) && decide ((bnd 83 q : Int) + bnd 66 q + toldRs1 t.2.2 <= 31) && decide (bnd 84 q <= 31) && decide (Pic.most q < 4294967296) && decide (Pic.high q < 4294967296) &&
 (sh.contains 100 || decide ((bnd 68 q : Int) + bnd 66 q + toldRd t.2.2 = 0)) && (sh.contains 115 || sh.contains 109 || sh.contains 117 || decide ((bnd 83 q : Int) + bnd 66 q + toldRs1 t.2.2 = 0)) && (sh.contains 116 || decide (bnd 84 q = 0)) && (sh.contains 105 || sh.contains 106 || sh.contains 109 || (decide (Pic.most q = 0) && decide (Pic.high q = 0)))
theorem longs_tame : ((List.range 71).all fun n => n == 0 || rowTame (Tab.longRow n)) = true := by decide +kernel
theorem shorts_tame : ((List.range 27).all fun n => n == 0 || rowTame (Tab.shortRow n)) = true := by decide +kernel
theorem imm_tame (s : ByteArray) (neg : Bool) (W : Nat) (h1 : Pic.most (Pic.rv s.data.toList s.size) < 4294967296) (h2 : Pic.high (Pic.rv s.data.toList s.size) < 4294967296) : -10000000000 < immOf s neg W /\ immOf s neg W < 10000000000 := zq323
theorem imm_zero (s : ByteArray) (neg : Bool) (W : Nat) (h1 : Pic.most (Pic.rv s.data.toList s.size) = 0) (h2 : Pic.high (Pic.rv s.data.toList s.size) = 0) : immOf s neg W = 0 := by
 have a := Pic.sum_le_most (Pic.rv s.data.toList s.size) W
 unfold immOf
 rw [Pic.imm_of, h2]
 split <;> omega
structure Real (i : Ins) (o : Nat) : Prop where
 op : i.op = o
 o1 : 1 <= o
 o70 : o <= 70
 tame : Tame i
 rd : 100 ∈ Byt.shp o \/ i.rd = 0
 rs1 : 115 ∈ Byt.shp o \/ 109 ∈ Byt.shp o \/ 117 ∈ Byt.shp o \/ i.rs1 = 0
 rs2 : 116 ∈ Byt.shp o \/ i.rs2 = 0
 im : 105 ∈ Byt.shp o \/ 106 ∈ Byt.shp o \/ 109 ∈ Byt.shp o \/ i.im = 0
theorem row_real (t : Int × ByteArray × Int) (h : rowTame t = true) (W : Nat) : ∃ o, Real (rowIns t W) o := by
 obtain ⟨a, s, r⟩ := t
 have b68 := reg_bnd s 68 W
 have b66 := reg_bnd s 66 W
 have b83 := reg_bnd s 83 W
 have b84 := reg_bnd s 84 W
 simp only [rowTame, Bool.and_eq_true, Bool.or_eq_true, decide_eq_true_eq, List.contains_iff_mem] at h
 obtain ⟨⟨⟨⟨⟨⟨⟨⟨⟨⟨⟨⟨h1, h2⟩, h3⟩, h4⟩, h5⟩, h6⟩, h7⟩, h8⟩, h9⟩, h10⟩, h11⟩, h12⟩, h13⟩ := h
 have him := imm_tame s (hasB r 1) W h8 h9
 obtain ⟨o, rfl⟩ := Int.eq_ofNat_of_zero_le (show 0 <= a by omega)
 refine ⟨o, rfl, by omega, by omega, ⟨?_, ?_, ?_, ?_, ?_, ?_, him.1, him.2⟩, ?_, ?_, ?_, ?_⟩
 . show (0 : Int) <= regOf s 68 W + regOf s 66 W + toldRd r; omega
 . show (regOf s 68 W : Int) + regOf s 66 W + toldRd r < 32; omega
 . show (0 : Int) <= regOf s 83 W + regOf s 66 W + toldRs1 r; omega
 . show (regOf s 83 W : Int) + regOf s 66 W + toldRs1 r < 32; omega
 . show (0 : Int) <= regOf s 84 W; omega
 . show (regOf s 84 W : Int) < 32; omega
 . rcases h10 with h | h
   . exact .inl h
   . exact .inr (by show (regOf s 68 W : Int) + regOf s 66 W + toldRd r = 0; omega)
 . rcases h11 with ((h | h) | h) | h
   . exact .inl h
   . exact .inr (.inl h)
   . exact .inr (.inr (.inl h))
   . exact .inr (.inr (.inr (by show (regOf s 83 W : Int) + regOf s 66 W + toldRs1 r = 0; omega)))
 . rcases h12 with h | h
   . exact .inl h
   . exact .inr (by show (regOf s 84 W : Int) = 0; omega)
 . rcases h13 with ((h | h) | h) | h
   . exact .inl h
   . exact .inr (.inl h)
   . exact .inr (.inr (.inl h))
   . exact .inr (.inr (.inr (imm_zero s (hasB r 1) W h.1 h.2)))
theorem long_real (n W : Nat) (h1 : 1 <= n) (h2 : n <= 70) : ∃ o, Real (rowIns (Tab.longRow n) W) o := by
 have h := List.all_eq_true.1 longs_tame n (by simp; omega)
 exact zq380
theorem short_real (n W : Nat) (h1 : 1 <= n) (h2 : n <= 26) : ∃ o, Real (rowIns (Tab.shortRow n) W) o := by
 have h := List.all_eq_true.1 shorts_tame n (by simp; omega)
 exact zq380
theorem fill_fold (i : Ins) : ∀ (cs : List Nat) (j : Ins), (∀ c ∈ cs, c ∈ Byt.lets) -> (cs.foldl (fun j c => Byt.fill j i c) j).op = j.op /\ (cs.foldl (fun j c => Byt.fill j i c) j).ln = j.ln /\
 (cs.foldl (fun j c => Byt.fill j i c) j).rd = (if 100 ∈ cs then i.rd else j.rd) /\ (cs.foldl (fun j c => Byt.fill j i c) j).rs1 = (if 115 ∈ cs \/ 109 ∈ cs \/ 117 ∈ cs then i.rs1 else j.rs1) /\
 (cs.foldl (fun j c => Byt.fill j i c) j).rs2 = (if 116 ∈ cs then i.rs2 else j.rs2) /\ (cs.foldl (fun j c => Byt.fill j i c) j).im = (if 105 ∈ cs \/ 106 ∈ cs \/ 109 ∈ cs then i.im else j.im)
 | [], j, _ => by simp
 | c :: cs, j, h => by
  obtain ⟨h1, h2, h3, h4, h5, h6⟩ := fill_fold i cs (Byt.fill j i c) (fun d hd => h d (by simp [hd]))
  have hc := h c (by simp)
  simp only [List.foldl_cons]
  rw [h1, h2, h3, h4, h5, h6]
  simp only [Byt.lets, List.mem_cons, List.not_mem_nil, or_false] at hc
  rcases hc with rfl | rfl | rfl | rfl | rfl | rfl | rfl <;> simp [Byt.fill] <;> intros <;> (try simp_all)
theorem fill_all (i : Ins) (cs : List Nat) (o : Nat) (hc : ∀ c ∈ cs, c ∈ Byt.lets) (op : i.op = o) (rd : 100 ∈ cs \/ i.rd = 0) (rs1 : 115 ∈ cs \/ 109 ∈ cs \/ 117 ∈ cs \/ i.rs1 = 0) (rs2 : 116 ∈ cs \/ i.rs2 = 0) (im : 105 ∈ cs \/ 106 ∈ cs \/ 109 ∈ cs \/ i.im = 0) (n : Nat) (hn : i.ln = n) :
 cs.foldl (fun j c => Byt.fill j i c) ⟨o, 0, 0, 0, 0, n⟩ = i := by
 obtain ⟨h1, h2, h3, h4, h5, h6⟩ := fill_fold i cs ⟨o, 0, 0, 0, 0, n⟩ hc
 generalize cs.foldl (fun j c => Byt.fill j i c) ⟨o, 0, 0, 0, 0, n⟩ = r at *
 obtain ⟨a1, a2, a3, a4, a5, a6⟩ := r
 obtain ⟨b1, b2, b3, b4, b5, b6⟩ := i
 simp only at *
 have e2 : a2 = b2 := by rw [h3]; split <;> simp_all
 have e3 : a3 = b3 := by
  rw [h4]; split
  . rfl
  . next h =>
     rcases rs1 with r | r | r | r
     . exact absurd (Or.inl r) h
     . exact absurd (Or.inr (Or.inl r)) h
     . exact absurd (Or.inr (Or.inr r)) h
     . exact r.symm
 have e4 : a4 = b4 := by rw [h5]; split <;> simp_all
 have e5 : a5 = b5 := by
  rw [h6]; split
  . rfl
  . next h =>
     rcases im with r | r | r | r
     . exact absurd (Or.inl r) h
     . exact absurd (Or.inr (Or.inl r)) h
     . exact absurd (Or.inr (Or.inr r)) h
     . exact r.symm
 rw [h1, h2, e2, e3, e4, e5, op, hn]
theorem names_ok : ((List.range 73).all fun n => n == 0 || (decide (Byt.wrd (Byt.nmL n) = (n, if n = 72 then 2 else 4)) && (Byt.nmL n).all Byt.inn && !(Byt.nmL n).isEmpty)) = true := by decide +kernel
theorem cnames_ok : ((List.range 71).all fun n => n == 0 || decide (Byt.wrd (99 :: 46 :: Byt.nmL n) = (n, 2))) = true := by decide +kernel
theorem name_ok (n : Nat) (h1 : 1 <= n) (h2 : n <= 72) : Byt.wrd (Byt.nmL n) = (n, if n = 72 then 2 else 4) /\ (∀ c ∈ Byt.nmL n, Byt.inn c = true) /\ Byt.nmL n ≠ [] /\ (Byt.nmL n).length <= 20 := by
 have h := List.all_eq_true.1 names_ok n (by simp; omega)
 rw [Bool.or_eq_true, beq_iff_eq] at h
 rcases h with h | h
 . omega
 . simp only [Bool.and_eq_true, decide_eq_true_eq, List.all_eq_true, Bool.not_eq_true', List.isEmpty_eq_false_iff] at h
   refine ⟨h.1.1, h.1.2, h.2, ?_⟩
   have := nm_sz n h2; unfold Byt.nmL; rw [Array.length_toList]; exact this
theorem cname_ok (n : Nat) (h1 : 1 <= n) (h2 : n <= 70) : Byt.wrd (99 :: 46 :: Byt.nmL n) = (n, 2) := by
 have h := List.all_eq_true.1 cnames_ok n (by simp; omega)
 rw [Bool.or_eq_true, beq_iff_eq, decide_eq_true_eq] at h
 rcases h with h | h
 . omega
 . exact h
theorem shp_lets (o : Nat) (h : o <= 72) : (∀ c ∈ Byt.shp o, c ∈ Byt.lets) /\ (Byt.shp o).length <= 8 := by
 have hs := shape_ok o h
 constructor
 . intro c hc
   unfold Byt.shp at hc
   rw [List.mem_map] at hc
   obtain ⟨b, hb, rfl⟩ := hc
   obtain ⟨k, hk, rfl⟩ := List.getElem_of_mem hb
   have hk' : k < (Nm.shape o).size := by rw [Array.length_toList] at hk; exact hk
   have := hs.2 k hk'
   have e : (Nm.shape o)[k] = (Nm.shape o).data.toList[k] := rfl
   rw [e] at this
   simp only [Byt.lets, List.mem_cons, List.not_mem_nil, or_false]
   omega
 . unfold Byt.shp; rw [List.length_map, Array.length_toList]; exact hs.1
theorem segs_one : ∀ (l pre : List UInt8), (∀ c ∈ l, ¬ c.toNat = 10) -> Byt.segs pre l = [pre ++ l]
 | [], pre, _ => by simp [Byt.segs]
 | c :: l, pre, h => by
  simp only [Byt.segs]
  rw [if_neg (h c (by simp)), segs_one l (pre ++ [c]) (fun d hd => h d (by simp [hd]))]
  simp
theorem nls_none : ∀ (l : List UInt8), (∀ c ∈ l, ¬ c.toNat = 10) -> Byt.nls l = 0
 | [], _ => rfl
 | c :: l, h => by
  simp only [Byt.nls]
  rw [if_neg (h c (by simp)), nls_none l (fun d hd => h d (by simp [hd]))]
theorem inn10 (c : UInt8) (h : Byt.inn c = true) : ¬ c.toNat = 10 := zq372
theorem opT_no10 (c : Nat) (i : Ins) : ∀ b ∈ Byt.opT c i, ¬ b.toNat = 10 := by
 have hr : ∀ n, ∀ b ∈ Byt.regName n, ¬ b.toNat = 10 := fun n b hb => inn10 b (reg_inn n b hb)
 have hn : ∀ v, ∀ b ∈ Lib.itoa v, ¬ b.toNat = 10 := fun v b hb => inn10 b (itoa_inn v b hb)
 unfold Byt.opT
 split
 . exact hr _
 . split
   . exact hr _
   . split
     . exact hr _
     . split
       . exact hn _
       . split
         . intro b hb
           simp only [List.mem_append, List.mem_cons, List.not_mem_nil, or_false] at hb
           rcases hb with hb | rfl | hb | rfl
           . exact hn _ b hb
           . decide
           . exact hr _ b hb
           . decide
         . exact hn _
theorem sep_no10 : ∀ (cs : List Nat) (m : Bool) (i : Ins), ∀ b ∈ Byt.sepT cs m i, ¬ b.toNat = 10
 | [], m, i, b, hb => by simp [Byt.sepT] at hb
 | c :: cs, m, i, b, hb => by
  simp only [Byt.sepT, List.mem_append] at hb
  rcases hb with hb | hb | hb
  . cases m
    . simp only [Bool.false_eq_true, if_false, List.mem_cons, List.not_mem_nil, or_false] at hb; rw [hb]; decide
    . simp only [if_true, List.mem_cons, List.not_mem_nil, or_false] at hb
      rcases hb with rfl | rfl <;> decide
  . exact opT_no10 c i b hb
  . exact sep_no10 cs true i b hb
theorem sep_len (i : Ins) (hi : Tame i) : ∀ (cs : List Nat) (m : Bool), (Byt.sepT cs m i).length <= 52 * cs.length
 | [], m => by simp [Byt.sepT]
 | c :: cs, m => by
  have h1 := opT_len c i hi
  have h2 := sep_len i hi cs true
  simp only [Byt.sepT, List.length_append, List.length_cons]
  cases m <;> simp <;> omega
theorem opK_head (c : Nat) (i : Ins) : ∃ t r, Byt.opK c i = t :: r /\ t ≠ [58] := by
 have hr : ∀ n, Byt.regName n ≠ [58] := fun n h => by
  have := reg_inn n 58 (by rw [h]; simp)
  exact absurd this (by decide)
 have hn : ∀ v, Lib.itoa v ≠ [58] := fun v h => by
  have := itoa_inn v 58 (by rw [h]; simp)
  exact absurd this (by decide)
 unfold Byt.opK
 split
 . exact ⟨_, _, rfl, hr _⟩
 . split
   . exact ⟨_, _, rfl, hr _⟩
   . split
     . exact ⟨_, _, rfl, hr _⟩
     . split
       . exact ⟨_, _, rfl, hn _⟩
       . split
         . exact ⟨_, _, rfl, hn _⟩
         . exact ⟨_, _, rfl, hn _⟩
theorem sepK_head (nm : List UInt8) (cs : List Nat) (i : Ins) : ¬ (1 < (nm :: Byt.sepK cs false i).length /\ (nm :: Byt.sepK cs false i)[1]?.getD [] = [58]) := by
 rintro ⟨_, h⟩
 cases cs with
 | nil => simp [Byt.sepK] at h
 | cons c cs =>
  obtain ⟨t, r, e, ht⟩ := opK_head c i
  simp only [Byt.sepK, Bool.false_eq_true, if_false, List.nil_append, e, List.cons_append, List.getElem?_cons_succ, List.getElem?_cons_zero, Option.getD_some] at h
  exact ht h
theorem asm_line (nm : List UInt8) (o n : Nat) (i : Ins) (hw : Byt.wrd nm = (o, n)) (hn : n ≠ 0) (ho : o <= 72) (hne : nm ≠ []) (hin : ∀ c ∈ nm, Byt.inn c = true) (hlen : nm.length <= 22) (ht : Tame i) (hln : i.ln = n)
 (hfill : (Byt.shp o).foldl (fun j c => Byt.fill j i c) ⟨o, 0, 0, 0, 0, n⟩ = i) (v : Int) (hv : Byt.wordD i = (v, 0)) : Byt.asmD (nm ++ Byt.sepT (Byt.shp o) false i) = (Byt.leB v n, 0, 0) := by
 obtain ⟨hl, hl8⟩ := shp_lets o ho
 have h10 : ∀ b ∈ nm ++ Byt.sepT (Byt.shp o) false i, ¬ b.toNat = 10 := by
  intro b hb
  rcases List.mem_append.1 hb with hb | hb
  . exact inn10 b (hin b hb)
  . exact sep_no10 _ _ _ b hb
 have hsl := sep_len i ht (Byt.shp o) false
 have htl : (nm ++ Byt.sepT (Byt.shp o) false i).length <= 1000 := by rw [List.length_append]; omega
 have hread : Byt.readLn (Byt.tok (nm ++ Byt.sepT (Byt.shp o) false i).length (nm ++ Byt.sepT (Byt.shp o) false i)) [] = (0, ⟨[], i, []⟩) := by
  rw [tok_line nm hne hin (Byt.shp o) i _ (Nat.le_refl _), readLn_not (sepK_head nm _ i)]
  refine readR_yes [] nm _ (by rw [hw]; exact hn) ?_
  rw [hw]
  have := ops_print (Byt.shp o) false i ⟨o, 0, 0, 0, 0, n⟩ [] ht hl
  rw [hfill] at this
  exact this
 have hall : Byt.readAll [] (Byt.segs [] (nm ++ Byt.sepT (Byt.shp o) false i)) = ([⟨[], i, []⟩], 0, 0) := by
  rw [segs_one _ [] h10, List.nil_append]
  simp only [Byt.readAll]
  rw [hread]; rfl
 unfold Byt.asmD
 rw [if_neg (by omega), nls_none _ h10, if_neg (by decide), hall]
 simp only [if_true]
 simp only [Byt.lay]
 rw [if_neg (by simp)]
 have ha : Byt.aimed [⟨[], i, []⟩] ⟨[], i, []⟩ ([] : List UInt8).length = i := by unfold Byt.aimed; rw [if_pos rfl]
 rw [ha, hv]
 simp only [if_true, List.nil_append]
 rw [hln, Int.toNat_natCast]
theorem tame_im (o im n : Int) (h0 : -10000000000 < im) (h1 : im < 10000000000) : Tame ⟨o, 0, 0, 0, im, n⟩ := ⟨Int.le_refl 0, (show (0 : Int) < 32 by decide), Int.le_refl 0, (show (0 : Int) < 32 by decide), Int.le_refl 0, (show (0 : Int) < 32 by decide), h0, h1⟩
theorem text_back (x : Int) (h : (decodeD x).2 = 0) : ∃ n : Nat, (n = 2 \/ n = 4) /\ sizeOf x = n /\ (Byt.textD x).2 = 0 /\ Byt.asmD (Byt.textD x).1 = (Byt.leB x n, 0, 0) := by
 have hdata : ∀ (W n : Nat), (n = 4 /\ W < 4294967296) \/ (n = 2 /\ W < 65536) -> Byt.asmD (Byt.nmL (if (n : Int) = 2 then 72 else 71) ++ 32 :: Lib.itoa W) = (Byt.leB W n, 0, 0) := by
  intro W n hWn
  rcases hWn with ⟨rfl, hW⟩ | ⟨rfl, hW⟩
  . rw [if_neg (by decide)]
    obtain ⟨a1, a2, a3, a4⟩ := name_ok 71 (by decide) (by decide)
    have hs : Byt.shp 71 = [105] := by decide +kernel
    have := asm_line (Byt.nmL 71) 71 4 ⟨71, 0, 0, 0, W, 4⟩ a1 (by decide) (by decide) a3 a2 (by omega) (tame_im _ _ _ (by omega) (by omega)) rfl (by rw [hs]; rfl) W (by
     unfold Byt.wordD Byt.dataD
     rw [if_neg (show ¬ (4 : Int) = 0 by decide), if_pos (show (71 : Int) = 71 from rfl), if_neg (by show ¬ ((W : Int) < -2147483648 \/ 4294967295 < (W : Int)); omega)])
    rw [hs] at this
    simpa [Byt.sepT, Byt.opT] using this
  . rw [if_pos (show ((2 : Nat) : Int) = 2 from rfl)]
    obtain ⟨a1, a2, a3, a4⟩ := name_ok 72 (by decide) (by decide)
    have hs : Byt.shp 72 = [105] := by decide +kernel
    have := asm_line (Byt.nmL 72) 72 2 ⟨72, 0, 0, 0, W, 2⟩ a1 (by decide) (by decide) a3 a2 (by omega) (tame_im _ _ _ (by omega) (by omega)) rfl (by rw [hs]; rfl) W (by
     unfold Byt.wordD Byt.dataD
     rw [if_neg (show ¬ (2 : Int) = 0 by decide), if_neg (show ¬ (72 : Int) = 71 by decide), if_pos (show (72 : Int) = 72 from rfl), if_neg (by show ¬ ((W : Int) < -32768 \/ 65535 < (W : Int)); omega)])
    rw [hs] at this
    simpa [Byt.sepT, Byt.opT] using this
 have hins : ∀ (i : Ins) (o n : Nat) (x : Int), Real i o -> i.ln = n -> (n = 2 \/ n = 4) -> encodeD i = (x, 0) -> Byt.asmD (Byt.insT i) = (Byt.leB x n, 0, 0) := by
  intro i o n x hr hln hn2 henc
  obtain ⟨a1, a2, a3, a4⟩ := name_ok o hr.o1 (by have := hr.o70; omega)
  have ho := hr.o70
  have ho1 := hr.o1
  obtain ⟨hl, hl8⟩ := shp_lets o (by omega)
  have hfill := fill_all i (Byt.shp o) o hl hr.op hr.rd hr.rs1 hr.rs2 hr.im n hln
  have hword : Byt.wordD i = (x, 0) := by
   unfold Byt.wordD
   have := hr.op
   rw [if_neg (by omega), if_neg (by omega), if_neg (by omega), henc]; rfl
  unfold Byt.insT
  have hot : i.op.toNat = o := by have := hr.op; omega
  rw [hot]
  rcases hn2 with rfl | rfl
  . rw [if_pos (by rw [hln]; rfl)]
    refine asm_line (99 :: 46 :: Byt.nmL o) o 2 i (cname_ok o ho1 ho) (by decide) (by omega) (by simp) ?_ (by simp only [List.length_cons]; omega) hr.tame hln hfill x hword
    intro c hc
    rcases List.mem_cons.1 hc with rfl | hc
    . decide
    . rcases List.mem_cons.1 hc with rfl | hc
      . decide
      . exact a2 c hc
  . rw [if_neg (by rw [hln]; decide)]
    rw [if_neg (by omega)] at a1
    exact asm_line (Byt.nmL o) o 4 i a1 (by decide) (by omega) a3 a2 (by omega) hr.tame hln hfill x hword
 have hlnL : ∀ (n W : Nat), 1 <= n -> n <= 70 -> (rowIns (Tab.longRow n) W).ln = 4 := by
  intro n W h1 h2
  show ((Tab.longRow n).2.1.size : Int) / 8 = 4
  rw [(long_facts n h1 h2).2.2]; rfl
 have hlnS : ∀ (n W : Nat), 1 <= n -> n <= 26 -> (rowIns (Tab.shortRow n) W).ln = 2 := by
  intro n W h1 h2
  obtain ⟨_, _, f3, _⟩ := short_facts n h1 h2
  show ((Tab.shortRow n).2.1.size : Int) / 8 = 2
  rw [f3]; rfl
 have hgo : ∀ (i : Ins) (n W : Nat), decodeD x = (i, 0) -> x = W -> i.ln = n -> ((n = 4 /\ W < 4294967296) \/ (n = 2 /\ W < 65536)) -> (encodeD i = (x, 0) -> ∃ o, Real i o) -> (Byt.textD x).2 = 0 /\ Byt.asmD (Byt.textD x).1 = (Byt.leB x n, 0, 0) := by
  intro i n W hd hx hln hn hr
  unfold Byt.textD
  rw [hd]
  simp only [if_true]
  by_cases he : (encodeD i).2 = 0 /\ (encodeD i).1 = x
  . rw [if_pos he]
    have henc : encodeD i = (x, 0) := Prod.ext he.2 he.1
    obtain ⟨o, ho⟩ := hr henc
    exact ⟨rfl, hins i o n x ho hln (by omega) henc⟩
  . rw [if_neg he, hln, hx]
    exact ⟨rfl, hdata W n hn⟩
 have hbadE : ∀ (m : Int) (y : Int), encodeD ⟨0, 0, 0, 0, 0, m⟩ ≠ (y, 0) := by
  intro m y
  rw [encode_eq]
  unfold encodeR
  rw [if_pos (Or.inl (show (0 : Int) < 1 by decide))]
  intro h
  exact absurd (show (3 : Int) = 0 from congrArg Prod.snd h) (by decide)
 rcases decode_ways x with ⟨hd, _⟩ | ⟨W, hx, hW, hc⟩
 . rw [hd] at h; cases h
 . rcases hc with ⟨hz, hc⟩ | ⟨hz, hW2, h3, hc⟩
   . refine ⟨4, .inr rfl, hz, ?_⟩
     rcases hc with hd | ⟨n, n1, n2, hf, hd⟩
     . exact hgo _ 4 W hd hx rfl (.inl ⟨rfl, hW⟩) (fun e => absurd e (hbadE _ _))
     . exact hgo _ 4 W hd hx (hlnL n W n1 n2) (.inl ⟨rfl, hW⟩) (fun _ => long_real n W n1 n2)
   . refine ⟨2, .inl rfl, hz, ?_⟩
     rcases hc with hd | ⟨n, n1, n2, hf, hd⟩
     . exact hgo _ 2 W hd hx rfl (.inr ⟨rfl, hW2⟩) (fun e => absurd e (hbadE _ _))
     . exact hgo _ 2 W hd hx (hlnS n W n1 n2) (.inr ⟨rfl, hW2⟩) (fun _ => short_real n W n1 n2)
theorem tame0 (n : Int) : Tame ⟨0, 0, 0, 0, 0, n⟩ := tame_im 0 0 n (by decide) (by decide)
theorem decode_tame (x : Int) : (decodeD x).2 = 0 -> Tame (decodeD x).1 /\ 0 <= (decodeD x).1.op /\ (decodeD x).1.op <= 70 /\ 0 <= x /\ x <= 4294967295 := by
 intro h
 rcases decode_ways x with ⟨hd, _⟩ | ⟨W, hx, hW, hc⟩
 . rw [hd] at h; cases h
 . have hr : ∀ i o, Real i o -> Tame i /\ 0 <= i.op /\ i.op <= 70 := fun i o hr => ⟨hr.tame, by have := hr.op; omega, by have := hr.op; have := hr.o70; omega⟩
   rcases hc with ⟨hz, hc⟩ | ⟨hz, hW2, h3, hc⟩
   . rcases hc with hd | ⟨n, n1, n2, hf, hd⟩
     . exact zq381
     . obtain ⟨o, ho⟩ := long_real n W n1 n2
       exact zq382
   . rcases hc with hd | ⟨n, n1, n2, hf, hd⟩
     . exact zq381
     . obtain ⟨o, ho⟩ := short_real n W n1 n2
       exact zq382
theorem a_Text' (x : Int) (w : World) (ht : Hid (Tb w)) :
 CB 91 #[.int .i64 x] (.tuple #[Byt.strV (Byt.textD x).1, .int .i64 (Byt.textD x).2]) w := a_Text x (decode_tame x) w ht
theorem neq_ins (a0 a1 a2 a3 a4 a5 b0 b1 b2 b3 b4 b5 : Int) (w : World) :
 (binOp .neq 53 (.agg #[.int .i64 a0, .int .i64 a1, .int .i64 a2, .int .i64 a3, .int .i64 a4, .int .i64 a5]) (.agg #[.int .i64 b0, .int .i64 b1, .int .i64 b2, .int .i64 b3, .int .i64 b4, .int .i64 b5])).run prog w =
   .ok (.bool (!(a0 == b0 && a1 == b1 && a2 == b2 && a3 == b3 && a4 == b4 && a5 == b5))) w := by
 rw [run_neq_struct, show (10000 : Nat) = 9998 + 1 + 1 from rfl, run_equalIn_agg w (9998 + 1) 53 _ _ und_ins stood_ins, eqFields_ins 9998 _ _ _ _ _ _ _ _ _ _ _ _ _ fields_ins]
 rfl
theorem neq_self (i : Ins) (w : World) : (binOp .neq 53 (.agg #[.int .i64 i.op, .int .i64 i.rd, .int .i64 i.rs1, .int .i64 i.rs2, .int .i64 i.im, .int .i64 i.ln]) (.agg #[.int .i64 i.op, .int .i64 i.rd, .int .i64 i.rs1, .int .i64 i.rs2, .int .i64 i.im, .int .i64 i.ln])).run prog w = .ok (.bool false) w := by
 rw [neq_ins]; simp
theorem eql_zero (w : World) : (binOp .eql 53 (.agg #[.int .i64 0, .int .i64 0, .int .i64 0, .int .i64 0, .int .i64 0, .int .i64 0]) (.agg #[.int .i64 0, .int .i64 0, .int .i64 0, .int .i64 0, .int .i64 0, .int .i64 0])).run prog w = .ok (.bool true) w := by
 rw [eql_ins]; rfl
theorem k_word_no (x : Int) (hd : decodeD x = (ins0, 2)) (hz : sizeOf x = 0) (w : World) :
 CB 46 #[.int .i64 x] (.bool true) w := by
 have hdec := i_Decode x w
 rw [hd] at hdec
 have HD := hide1 hdec
 unfold insV ins0 at HD
 have hq := eql_zero
 clear hdec hd
 unfold sizeOf at hz
 by_cases h1 : x < 0
 . have e1 : decide (x < 0) = true := by simp [h1]
   exact zq383
 . have e1 : decide (x < 0) = false := by simp; omega
   by_cases h2 : 4294967295 < x
   . have e2 : decide (4294967295 < x) = true := by simp; omega
     exact zq383
   . have e2 : decide (4294967295 < x) = false := by simp; omega
     rw [if_neg (by omega)] at hz
     have h3 : ¬ x % 4 = 3 := fun h => by rw [if_pos h] at hz; cases hz
     rw [if_neg h3] at hz
     have h4 : 65535 < x := Classical.byContradiction fun h => by rw [if_pos (by omega)] at hz; cases hz
     have e3 : (x % 4 != 3) = true := by simp; omega
     have e3' : (x.tmod 4 != 3) = true := by rw [Int.tmod_eq_emod_of_nonneg (by omega)]; exact e3
     have e4 : decide (65535 < x) = true := by simp; omega
     exact zq383
theorem k_word_yes (W n : Nat) (hn : (n = 4 /\ W % 4 = 3) \/ (n = 2 /\ ¬ W % 4 = 3)) (i : Ins) (hd : decodeD W = (i, 0)) (hln : i.ln = n) (r1 : 0 <= i.rd) (r2 : i.rd <= 31) (r3 : 0 <= i.rs1) (r4 : i.rs1 <= 31)
 (hop : i = ⟨0, 0, 0, 0, 0, n⟩ \/ (1 <= i.op /\ ∃ v : Nat, encodeD i = ((v : Int), 0) /\ v <= W /\ (n = 4 -> v = W) /\ decodeD v = (i, 0)))
 (t : List UInt8) (htx : Byt.textD W = (t, 0)) (hta : Byt.asmD t = (Byt.leB W n, 0, 0)) (w : World) (ht : Hid (Tb w)) :
 CB 46 #[.int .i64 W] (.bool true) w := by
 have hn8 : n <= 8 := by omega
 have hdec := i_Decode W w
 rw [hd] at hdec
 have HD := hide1 hdec
 obtain ⟨X, hX⟩ := zn1 (⟨t.toArray⟩ : ByteArray)
 obtain ⟨B, hB⟩ := zn1 (strOfNums (leL W n) : ByteArray)
 have htext : ∀ w1, Below w.heap.size w w1 -> Calls prog 91 #[.int .i64 W] w1 fun e w' => e = .returned (.tuple #[.string X, .int .i64 0]) /\ Hid (Below w1.heap.size w1 w') := by
  intro w1 hb
  have h := a_Text' W w1 (hide1 (ht.out.more hb))
  rw [htx] at h
  rw [hX]; exact h
 have hasm : ∀ w1, Calls prog 73 #[.string X] w1 fun e w' => e = .returned (.tuple #[.string B, .int .i64 0, .int .i64 0]) /\ Hid (Below w1.heap.size w1 w') := by
  intro w1
  have h := a_Assemble X w1
  rw [show X.data.toList = t by rw [hX], hta] at h
  have e : Byt.strV (Byt.leB W n) = .string B := by unfold Byt.strV Byt.leB; rw [mk_list, hB]
  rw [show (Byt.leB (W : Int) n, (0 : Int), 0).1 = Byt.leB W n from rfl, e] at h
  exact h
 have hle : ∀ w1, Calls prog 99 #[.int .i64 W, .int .i64 n] w1 fun e w' => e = .returned (.string B) /\ Hid (Below w1.heap.size w1 w') := by
  intro w1
  rw [hB]; exact u_Le W n hn8 w1
 have hbb : (B.toList == B.toList) = true := by simp
 have HTEXT := hide1 htext
 have HASM := hide1 hasm
 have HLE := hide1 hle
 unfold insV at HD
 have hneq := neq_self i
 have HIL := hide1 hln
 have f1 : decide (i.rd < 0) = false := by simp; omega
 have f2 : decide (31 < i.rd) = false := by simp; omega
 have f3 : decide (i.rs1 < 0) = false := by simp; omega
 have f4 : decide (31 < i.rs1) = false := by simp; omega
 have HOP := hide1 hop
 clear hdec hd htx hta hX hB htext hasm hle hop hn8
 rcases hn with ⟨hn4, h3⟩ | ⟨hn4, h3⟩
 . subst hn4
   have g3 : ((W : Int) % 4 != 3) = false := by simp; omega
   have g3' : ((W : Int).tmod 4 != 3) = false := zq139
   have g4 : (W % 4 != 3) = false := by simp; omega
   rw [hln] at HD hneq
   go_enter func46, ntmps46
   go_wp2_with fail
   refine HD.out.mono ?_
   rintro e w1 ⟨rfl, hb1⟩
   have hz := hide1 (Ized.start ⟨i.op, i.rd, i.rs1, i.rs2, i.im, (4 : Nat)⟩ w1 53)
   have HB1 := hide1 (hb1.alloc hb1.size (.cells #[.int .i64 i.op, .int .i64 i.rd, .int .i64 i.rs1, .int .i64 i.rs2, .int .i64 i.im, .int .i64 (4 : Nat)] 53))
   clear HD
   go_upto_if 71 with fail
   go_cut [] from 71 to 104 (fun wx => Hid (Below w.heap.size w wx))
   case first =>
    rcases HOP.out with h | ⟨ho1, v, he, hv1, hv2, hdv⟩
    . exact zq384
    . have q0 : (i.op == 0) = false := by simp; omega
      have henc := fun W => i_Encode i W
      rw [he] at henc
      unfold insV at henc
      rw [hln] at henc
      have hdv' := fun W => i_Decode v W
      rw [hdv] at hdv'
      unfold insV at hdv'
      rw [hln] at hdv'
      have HENC := hide1 henc
      have HDV := hide1 hdv'
      obtain rfl : v = W := by first | exact hv2 rfl | exact hv2 trivial
      have g1 : decide ((v : Int) < (v : Int)) = false := by simp
      have g2 : ((v : Int) != (v : Int)) = false := by simp
      exact zq385
   case rest =>
    clear HOP hneq hz HB1 hb1
    go_wp2_with fail
    refine (HTEXT.out _ hcut.out).mono ?_
    rintro e w2 ⟨rfl, hb2⟩
    have HB2 := hide1 (hcut.out.trans (hb2.out.mono hcut.out.size))
    go_wp2_with fail
    refine (HASM.out _).mono ?_
    rintro e w3 ⟨rfl, hb3⟩
    have HB3 := hide1 (HB2.out.trans (hb3.out.mono HB2.out.size))
    go_wp2_with fail
    refine (HLE.out _).mono ?_
    rintro e w4 ⟨rfl, hb4⟩
    have HB4 := hide1 (HB3.out.trans (hb4.out.mono HB3.out.size))
    go_wp2
    go_ret
    exact ⟨rfl, HB4.out⟩
 . subst hn4
   have g3 : ((W : Int) % 4 != 3) = true := by simp; omega
   have g3' : ((W : Int).tmod 4 != 3) = true := zq139
   have g4 : (W % 4 != 3) = true := by simp; omega
   rw [hln] at HD hneq
   go_enter func46, ntmps46
   go_wp2_with fail
   refine HD.out.mono ?_
   rintro e w1 ⟨rfl, hb1⟩
   have hz := hide1 (Ized.start ⟨i.op, i.rd, i.rs1, i.rs2, i.im, (2 : Nat)⟩ w1 53)
   have HB1 := hide1 (hb1.alloc hb1.size (.cells #[.int .i64 i.op, .int .i64 i.rd, .int .i64 i.rs1, .int .i64 i.rs2, .int .i64 i.im, .int .i64 (2 : Nat)] 53))
   clear HD
   go_upto_if 71 with fail
   go_cut [] from 71 to 104 (fun wx => Hid (Below w.heap.size w wx))
   case first =>
    rcases HOP.out with h | ⟨ho1, v, he, hv1, hv2, hdv⟩
    . exact zq384
    . have q0 : (i.op == 0) = false := by simp; omega
      have henc := fun W => i_Encode i W
      rw [he] at henc
      unfold insV at henc
      rw [hln] at henc
      have hdv' := fun W => i_Decode v W
      rw [hdv] at hdv'
      unfold insV at hdv'
      rw [hln] at hdv'
      have HENC := hide1 henc
      have HDV := hide1 hdv'
      have g1 : decide ((W : Int) < (v : Int)) = false := by simp; omega
      have g2 : decide (W < v) = false := by simp; omega
      exact zq385
   case rest =>
    clear HOP hneq hz HB1 hb1
    go_wp2_with fail
    refine (HTEXT.out _ hcut.out).mono ?_
    rintro e w2 ⟨rfl, hb2⟩
    have HB2 := hide1 (hcut.out.trans (hb2.out.mono hcut.out.size))
    go_wp2_with fail
    refine (HASM.out _).mono ?_
    rintro e w3 ⟨rfl, hb3⟩
    have HB3 := hide1 (HB2.out.trans (hb3.out.mono HB2.out.size))
    go_wp2_with fail
    refine (HLE.out _).mono ?_
    rintro e w4 ⟨rfl, hb4⟩
    have HB4 := hide1 (HB3.out.trans (hb4.out.mono HB3.out.size))
    go_wp2
    go_ret
    exact ⟨rfl, HB4.out⟩
theorem k_word (x : Int) (w : World) (ht : Hid (Tb w)) :
 CB 46 #[.int .i64 x] (.bool true) w := by
 rcases decode_ways x with ⟨hd, hz⟩ | ⟨W, rfl, hW, hc⟩
 . exact k_word_no x hd hz w
 . have hlnL : ∀ (n W : Nat), 1 <= n -> n <= 70 -> (rowIns (Tab.longRow n) W).ln = (4 : Nat) := by
    intro n W h1 h2
    show ((Tab.longRow n).2.1.size : Int) / 8 = 4
    rw [(long_facts n h1 h2).2.2]; rfl
   have hlnS : ∀ (n W : Nat), 1 <= n -> n <= 26 -> (rowIns (Tab.shortRow n) W).ln = (2 : Nat) := by
    intro n W h1 h2
    obtain ⟨_, _, f3, _⟩ := short_facts n h1 h2
    show ((Tab.shortRow n).2.1.size : Int) / 8 = 2
    rw [f3]; rfl
   have htx : ∀ n : Nat, sizeOf W = n -> (decodeD W).2 = 0 -> ∃ t, Byt.textD W = (t, 0) /\ Byt.asmD t = (Byt.leB W n, 0, 0) := by
    intro n hn h
    obtain ⟨m, _, hm, h1, h2⟩ := text_back W h
    rw [hn] at hm
    have : n = m := by omega
    subst this
    exact ⟨(Byt.textD W).1, Prod.ext rfl h1, h2⟩
   rcases hc with ⟨hz, hc⟩ | ⟨hz, hW2, h3, hc⟩
   . have h3 : W % 4 = 3 := by
      unfold sizeOf at hz
      rw [if_neg (by omega)] at hz
      exact Classical.byContradiction fun h => by
       rw [if_neg (by omega)] at hz
       split at hz <;> cases hz
     rcases hc with hd | ⟨n, n1, n2, hf, hd⟩
     . obtain ⟨t, t1, t2⟩ := htx 4 hz (by rw [hd])
       exact k_word_yes W 4 (.inl ⟨rfl, h3⟩) _ hd rfl (Int.le_refl 0) (show (0 : Int) <= 31 by decide) (Int.le_refl 0) (show (0 : Int) <= 31 by decide) (.inl rfl) t t1 t2 w ht
     . obtain ⟨t, t1, t2⟩ := htx 4 hz (by rw [hd])
       obtain ⟨o, ho⟩ := long_real n W n1 n2
       exact k_word_yes W 4 (.inl ⟨rfl, h3⟩) _ hd (hlnL n W n1 n2) ho.tame.d0 (by have := ho.tame.d1; omega) ho.tame.s0 (by have := ho.tame.s1; omega) (.inr ⟨by have := ho.op; have := ho.o1; omega, W, enc_long n W n1 n2 hW hf, Nat.le_refl _, fun _ => rfl, hd⟩) t t1 t2 w ht
   . rcases hc with hd | ⟨n, n1, n2, hf, hd⟩
     . obtain ⟨t, t1, t2⟩ := htx 2 hz (by rw [hd])
       exact k_word_yes W 2 (.inr ⟨rfl, h3⟩) _ hd rfl (Int.le_refl 0) (show (0 : Int) <= 31 by decide) (Int.le_refl 0) (show (0 : Int) <= 31 by decide) (.inl rfl) t t1 t2 w ht
     . obtain ⟨t, t1, t2⟩ := htx 2 hz (by rw [hd])
       obtain ⟨o, ho⟩ := short_real n W n1 n2
       obtain ⟨v, v1, v2, v3⟩ := enc_short n W n1 n2 hW2 h3 hf
       exact k_word_yes W 2 (.inr ⟨rfl, h3⟩) _ hd (hlnS n W n1 n2) ho.tame.d0 (by have := ho.tame.d1; omega) ho.tame.s0 (by have := ho.tame.s1; omega) (.inr ⟨by have := ho.op; have := ho.o1; omega, v, v1, v2, fun h => absurd h (by decide), v3⟩) t t1 t2 w ht
namespace Gold
def rows : List (Nat × List UInt8) := [
 (19, [97, 100, 100, 105, 32, 120, 48, 44, 32, 120, 48, 44, 32, 48]),
 (32871, [106, 97, 108, 114, 32, 120, 48, 44, 32, 48, 40, 120, 49, 41]),
 (115, [101, 99, 97, 108, 108]),
 (1048691, [101, 98, 114, 101, 97, 107]),
 (807403635, [109, 114, 101, 116]),
 (270532723, [115, 114, 101, 116]),
 (273678451, [119, 102, 105]),
 (301990003, [115, 102, 101, 110, 99, 101, 46, 118, 109, 97, 32, 120, 48, 44, 32, 120, 48]),
 (4111, [102, 101, 110, 99, 101, 46, 105, 32, 120, 48, 44, 32, 120, 48, 44, 32, 48]),
 (267386895, [102, 101, 110, 99, 101, 32, 120, 48, 44, 32, 120, 48, 44, 32, 50, 53, 53]),
 (4261478675, [97, 100, 100, 105, 32, 120, 50, 44, 32, 120, 50, 44, 32, 45, 51, 50]),
 (1125923, [115, 119, 32, 120, 49, 44, 32, 50, 56, 40, 120, 50, 41]),
 (29433987, [108, 119, 32, 120, 49, 44, 32, 50, 56, 40, 120, 50, 41]),
 (4272172579, [115, 119, 32, 120, 49, 48, 44, 32, 45, 52, 40, 120, 56, 41]),
 (4274268035, [108, 119, 32, 120, 49, 53, 44, 32, 45, 50, 48, 40, 120, 56, 41]),
 (111, [106, 97, 108, 32, 120, 48, 44, 32, 48]),
 (4284477551, [106, 97, 108, 32, 120, 48, 44, 32, 45, 49, 50]),
 (4194543, [106, 97, 108, 32, 120, 49, 44, 32, 52]),
 (4261912291, [98, 110, 101, 32, 120, 49, 53, 44, 32, 120, 48, 44, 32, 45, 52]),
 (492643, [98, 101, 113, 32, 120, 49, 53, 44, 32, 120, 48, 44, 32, 56]),
 (16208995, [98, 103, 101, 32, 120, 49, 52, 44, 32, 120, 49, 53, 44, 32, 56]),
 (16213091, [98, 108, 116, 117, 32, 120, 49, 52, 44, 32, 120, 49, 53, 44, 32, 56]),
 (4273278691, [98, 101, 113, 32, 120, 49, 48, 44, 32, 120, 49, 49, 44, 32, 45, 52]),
 (4047512947, [99, 115, 114, 114, 115, 32, 120, 49, 48, 44, 32, 51, 56, 54, 48, 44, 32, 120, 48]),
 (402985075, [99, 115, 114, 114, 119, 32, 120, 48, 44, 32, 51, 56, 52, 44, 32, 120, 49, 48]),
 (873795699, [99, 115, 114, 114, 119, 32, 120, 48, 44, 32, 56, 51, 51, 44, 32, 120, 49, 48]),
 (805597299, [99, 115, 114, 114, 99, 105, 32, 120, 48, 44, 32, 55, 54, 56, 44, 32, 56]),
 (805593203, [99, 115, 114, 114, 115, 105, 32, 120, 48, 44, 32, 55, 54, 56, 44, 32, 56]),
 (3221235059, [99, 115, 114, 114, 115, 32, 120, 49, 48, 44, 32, 51, 48, 55, 50, 44, 32, 120, 48]),
 (12944691, [97, 100, 100, 32, 120, 49, 48, 44, 32, 120, 49, 49, 44, 32, 120, 49, 50]),
 (1086686515, [115, 117, 98, 32, 120, 49, 48, 44, 32, 120, 49, 49, 44, 32, 120, 49, 50]),
 (46499123, [109, 117, 108, 32, 120, 49, 48, 44, 32, 120, 49, 49, 44, 32, 120, 49, 50]),
 (46519603, [100, 105, 118, 117, 32, 120, 49, 48, 44, 32, 120, 49, 49, 44, 32, 120, 49, 50]),
 (49772467, [114, 101, 109, 117, 32, 120, 49, 53, 44, 32, 120, 49, 52, 44, 32, 120, 49, 53]),
 (1106597139, [115, 114, 97, 105, 32, 120, 49, 48, 44, 32, 120, 49, 48, 44, 32, 51, 49]),
 (509187, [108, 98, 117, 32, 120, 49, 48, 44, 32, 48, 40, 120, 49, 53, 41]),
 (268436791, [108, 117, 105, 32, 120, 49, 48, 44, 32, 54, 53, 53, 51, 54]),
 (279, [97, 117, 105, 112, 99, 32, 120, 50, 44, 32, 48]),
 (212182319, [97, 109, 111, 115, 119, 97, 112, 46, 119, 32, 120, 49, 48, 44, 32, 120, 49, 48, 44, 32, 120, 49, 49, 44, 32, 50]),
 (268805423, [108, 114, 46, 119, 32, 120, 49, 48, 44, 32, 120, 49, 49, 44, 32, 48]),
 (415606063, [115, 99, 46, 119, 32, 120, 49, 48, 44, 32, 120, 49, 50, 44, 32, 120, 49, 49, 44, 32, 48]),
 (1, [99, 46, 97, 100, 100, 105, 32, 120, 48, 44, 32, 120, 48, 44, 32, 48]),
 (32898, [99, 46, 106, 97, 108, 114, 32, 120, 48, 44, 32, 48, 40, 120, 49, 41]),
 (36866, [99, 46, 101, 98, 114, 101, 97, 107]),
 (4353, [99, 46, 97, 100, 100, 105, 32, 120, 50, 44, 32, 120, 50, 44, 32, 45, 51, 50]),
 (4417, [99, 46, 97, 100, 100, 105, 32, 120, 50, 44, 32, 120, 50, 44, 32, 45, 49, 54]),
 (321, [99, 46, 97, 100, 100, 105, 32, 120, 50, 44, 32, 120, 50, 44, 32, 49, 54]),
 (2048, [99, 46, 97, 100, 100, 105, 32, 120, 56, 44, 32, 120, 50, 44, 32, 49, 54]),
 (4096, [99, 46, 97, 100, 100, 105, 32, 120, 56, 44, 32, 120, 50, 44, 32, 51, 50]),
 (29049, [99, 46, 97, 100, 100, 105, 32, 120, 50, 44, 32, 120, 50, 44, 32, 45, 52, 56]),
 (24901, [99, 46, 97, 100, 100, 105, 32, 120, 50, 44, 32, 120, 50, 44, 32, 52, 56]),
 (29021, [99, 46, 97, 100, 100, 105, 32, 120, 50, 44, 32, 120, 50, 44, 32, 45, 56, 48]),
 (24929, [99, 46, 97, 100, 100, 105, 32, 120, 50, 44, 32, 120, 50, 44, 32, 56, 48]),
 (24865, [99, 46, 97, 100, 100, 105, 32, 120, 50, 44, 32, 120, 50, 44, 32, 54, 52]),
 (24841, [99, 46, 97, 100, 100, 105, 32, 120, 50, 44, 32, 120, 50, 44, 32, 49, 50, 56]),
 (28953, [99, 46, 97, 100, 100, 105, 32, 120, 50, 44, 32, 120, 50, 44, 32, 45, 49, 50, 56]),
 (52742, [99, 46, 115, 119, 32, 120, 49, 44, 32, 50, 56, 40, 120, 50, 41]),
 (50694, [99, 46, 115, 119, 32, 120, 49, 44, 32, 49, 50, 40, 120, 50, 41]),
 (50210, [99, 46, 115, 119, 32, 120, 56, 44, 32, 56, 40, 120, 50, 41]),
 (49702, [99, 46, 115, 119, 32, 120, 57, 44, 32, 52, 40, 120, 50, 41]),
 (54790, [99, 46, 115, 119, 32, 120, 49, 44, 32, 52, 52, 40, 120, 50, 41]),
 (16626, [99, 46, 108, 119, 32, 120, 49, 44, 32, 50, 56, 40, 120, 50, 41]),
 (16562, [99, 46, 108, 119, 32, 120, 49, 44, 32, 49, 50, 40, 120, 50, 41]),
 (17442, [99, 46, 108, 119, 32, 120, 56, 44, 32, 56, 40, 120, 50, 41]),
 (17554, [99, 46, 108, 119, 32, 120, 57, 44, 32, 52, 40, 120, 50, 41]),
 (20658, [99, 46, 108, 119, 32, 120, 49, 44, 32, 52, 52, 40, 120, 50, 41]),
 (50072, [99, 46, 115, 119, 32, 120, 49, 52, 44, 32, 48, 40, 120, 49, 53, 41]),
 (17304, [99, 46, 108, 119, 32, 120, 49, 52, 44, 32, 48, 40, 120, 49, 53, 41]),
 (50136, [99, 46, 115, 119, 32, 120, 49, 52, 44, 32, 52, 40, 120, 49, 53, 41]),
 (17368, [99, 46, 108, 119, 32, 120, 49, 52, 44, 32, 52, 40, 120, 49, 53, 41]),
 (17665, [99, 46, 97, 100, 100, 105, 32, 120, 49, 48, 44, 32, 120, 48, 44, 32, 48]),
 (17669, [99, 46, 97, 100, 100, 105, 32, 120, 49, 48, 44, 32, 120, 48, 44, 32, 49]),
 (34110, [99, 46, 97, 100, 100, 32, 120, 49, 48, 44, 32, 120, 48, 44, 32, 120, 49, 53]),
 (38842, [99, 46, 97, 100, 100, 32, 120, 49, 53, 44, 32, 120, 49, 53, 44, 32, 120, 49, 52]),
 (38786, [99, 46, 106, 97, 108, 114, 32, 120, 49, 44, 32, 48, 40, 120, 49, 53, 41]),
 (34690, [99, 46, 106, 97, 108, 114, 32, 120, 48, 44, 32, 48, 40, 120, 49, 53, 41]),
 (1925, [99, 46, 97, 100, 100, 105, 32, 120, 49, 53, 44, 32, 120, 49, 53, 44, 32, 49]),
 (6141, [99, 46, 97, 100, 100, 105, 32, 120, 49, 53, 44, 32, 120, 49, 53, 44, 32, 45, 49]),
 (35717, [99, 46, 97, 110, 100, 105, 32, 120, 49, 53, 44, 32, 120, 49, 53, 44, 32, 49]),
 (33677, [99, 46, 115, 114, 108, 105, 32, 120, 49, 53, 44, 32, 120, 49, 53, 44, 32, 51]),
 (34705, [99, 46, 115, 114, 97, 105, 32, 120, 49, 53, 44, 32, 120, 49, 53, 44, 32, 52]),
 (1934, [99, 46, 115, 108, 108, 105, 32, 120, 49, 53, 44, 32, 120, 49, 53, 44, 32, 51]),
 (36761, [99, 46, 115, 117, 98, 32, 120, 49, 53, 44, 32, 120, 49, 53, 44, 32, 120, 49, 52]),
 (36793, [99, 46, 120, 111, 114, 32, 120, 49, 53, 44, 32, 120, 49, 53, 44, 32, 120, 49, 52]),
 (36825, [99, 46, 111, 114, 32, 120, 49, 53, 44, 32, 120, 49, 53, 44, 32, 120, 49, 52]),
 (36857, [99, 46, 97, 110, 100, 32, 120, 49, 53, 44, 32, 120, 49, 53, 44, 32, 120, 49, 52]),
 (26569, [99, 46, 108, 117, 105, 32, 120, 49, 53, 44, 32, 49, 56]),
 (30717, [99, 46, 108, 117, 105, 32, 120, 49, 53, 44, 32, 45, 49]),
 (50065, [99, 46, 98, 101, 113, 32, 120, 49, 53, 44, 32, 120, 48, 44, 32, 52]),
 (58257, [99, 46, 98, 110, 101, 32, 120, 49, 53, 44, 32, 120, 48, 44, 32, 52]),
 (40961, [99, 46, 106, 97, 108, 32, 120, 48, 44, 32, 48]),
 (40977, [99, 46, 106, 97, 108, 32, 120, 48, 44, 32, 52]),
 (49093, [99, 46, 106, 97, 108, 32, 120, 48, 44, 32, 45, 49, 54]),
 (8193, [99, 46, 106, 97, 108, 32, 120, 49, 44, 32, 48]),
 (0, [46, 104, 97, 108, 102, 32, 48]),
 (39937, [46, 104, 97, 108, 102, 32, 51, 57, 57, 51, 55])]
def w (k : Nat) : Nat := (rows[k]?.getD (0, [])).1
def l (k : Nat) : List UInt8 := (rows[k]?.getD (0, [])).2
end Gold
theorem golds_ok : ((List.range 96).all fun k => decide (Byt.textD (Gold.w k) = (Gold.l k, 0)) && decide ((decodeD (Gold.w k)).2 = 0)) = true := by decide +kernel
theorem gold_ok (k : Nat) (h : k < 96) : Byt.textD (Gold.w k) = (Gold.l k, 0) /\ (decodeD (Gold.w k)).2 = 0 := by
 have := List.all_eq_true.1 golds_ok k (by simpa using h)
 simpa only [Bool.and_eq_true, decide_eq_true_eq] using this
def KnP (k : Int) (j : Nat) (w : World) : Prop := CS 110 #[.int .i64 k] (.tuple #[.int .i64 (Gold.w j), Byt.strV (Gold.l j)]) w
end Go.Proofs.YtmlgonbhoknoiaaGreatDoor
