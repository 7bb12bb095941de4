import Derived.Test.YtmlgonbhoknoiabGreatDoorWBH
set_option maxHeartbeats 8000000
set_option linter.all false
namespace Go.Proofs.YtmlgonbhoknoiabGreatDoor
open Go.RowKit Go.Proofs.Tryz
section
attribute [local go_sem ↓] Go.wp_at_zero Go.wp_at_succ
def Wl (w0 : World) (fb gb : Nat) (f g : Fc) (tb b0 b1 b2 b3 b4 n m : Nat) (w : World) : Prop := BoxF w fb f.l /\ BoxF w gb g.l /\ Tabs w tb b0 b1 b2 b3 b4 n m /\ Kept [] w0 w
theorem Wl.drewN {w0 : World} {fb gb : Nat} {f g : Fc} {tb b0 b1 b2 b3 b4 n m : Nat} {w : World} (h : Wl w0 fb gb f g tb b0 b1 b2 b3 b4 n m w) (k : Nat) : Wl w0 fb gb f g tb b0 b1 b2 b3 b4 n m (w.drewN k) :=
 have hk : Kept [] w (w.drewN k) := (Kept.refl [] w).drewN k
 ⟨h.1.kept hk, h.2.1.kept hk, h.2.2.1.kept hk, h.2.2.2.trans hk⟩
set_option maxRecDepth 100000 in
theorem k_walled (fb gb z : Nat) (f g : Fc) (hz : z <= 65536) (hf1 : FcOk f z) (hg1 : FcOk g z) (w : World) (hf : Hid (BoxF w fb f.l)) (hg : Hid (BoxF w gb g.l)) : Calls prog 60 #[.pointer (some ⟨fb, 0, none⟩), .pointer (some ⟨gb, 0, none⟩)] w fun o w' => BoolR o /\ Kept [] w w' := by
 have PG := hide1 (k_paged fb f w hf)
 have TO := hide1 (fun W hW => k_tablesOf fb z f hz hf1 W hW)
 have c13 := hf.out.cell 13 _ rfl
 have d13 := hg.out.cell 13 _ rfl
 have cl := hf.out.lt
 have dl := hg.out.lt
 have sf := hf1.ram
 have sg := hg1.ram
 obtain ⟨S, hS⟩ := zn1 (f.ram)
 obtain ⟨G, hG⟩ := zn1 (g.ram)
 have CF := hide1 (fun (W : World) (h : BoxF W fb f.l) => (h.cell 13 _ rfl : W.cell? ⟨fb, 13, none⟩ = some (.string f.ram)))
 have CG := hide1 (fun (W : World) (h : BoxF W gb g.l) => (h.cell 13 _ rfl : W.cell? ⟨gb, 13, none⟩ = some (.string g.ram)))
 rw [<- hS] at c13 sf CF
 rw [<- hG] at d13 sg CG
 obtain ⟨n, hn⟩ := zn1 ((z + 4095) / 4096 : Nat)
 obtain ⟨m, hm⟩ := zn1 (z / 4 + 1 : Nat)
 rw [<- hn, <- hm] at TO
 have HN := hide1 hn
 have HM := hide1 hm
 have SF := hide1 sf
 have SG := hide1 sg
 clear hS hG hn hm hf1 hg1 sf sg
 go_enter func60, ntmps60
 go_wp2_with fail
 refine PG.out.mono ?_
 rintro o w1 ⟨rfl, hw1⟩
 rw [hw1]
 obtain ⟨on, hon⟩ := zn2 ((!(f.mode == 3) && (f.satp / 2147483648 == 1)))
 rw [hon]
 clear hon
 clear hw1 w1 PG
 cases on
 . exact zq403
 cases hq : (S.toList == G.toList)
 rotate_left
 . exact zq403
 go_upto_region 2 with fail
 go_quiet (fail)
 all_goals
  have hf2 : Hid (BoxF (w.drewN nq) fb f.l) := hide1 (hf.out.kept ((Kept.refl [] w).drewN nq))
  have hg2 : Hid (BoxF (w.drewN nq) gb g.l) := hide1 (hg.out.kept ((Kept.refl [] w).drewN nq))
  have T1 := hide1 (TO.out _ hf2)
  clear TO hf hg c13 d13
  go_wp2_with fail
  refine T1.out.mono ?_
  rintro o w2 ⟨⟨tb, b0, b1, b2, b3, b4, rfl, htb, _⟩, hk2⟩
  have W2 : Hid (Wl w fb gb f g tb b0 b1 b2 b3 b4 n m w2) := hide1 ⟨hf2.out.kept hk2, hg2.out.kept hk2, htb, ((Kept.refl [] w).drewN nq).trans hk2⟩
  clear hf2 hg2 T1 htb hk2
  go_wp2_with fail
  go_loopw [7] (fun x wr => ∃ i : Nat, i <= z /\ x = .int .i64 i /\ Hid (Wl w fb gb f g tb b0 b1 b2 b3 b4 n m wr)) (fun x _ => z - (intOf x).toNat)
  case atStart => exact ⟨0, by omega, rfl, W2⟩
  case round =>
   obtain ⟨i, hi, rfl, hb⟩ := hrel
   clear W2
   have c13 := CF.out wr hb.out.1
   have cl := hb.out.1.lt
   have d13 := CG.out wr hb.out.2.1
   have dl := hb.out.2.1.lt
   by_cases hlt : i < z
   . have hlt' : decide ((i : Int) < (S.size : Int)) = true := by have := SF.out; simp; omega
     have iS : i < S.size := by have := SF.out; omega
     have iG : i < G.size := by have := SG.out; omega
     have jS : (0 : Int) <= (i : Int) /\ (i : Int) < (S.size : Int) := by omega
     have jG : (0 : Int) <= (i : Int) /\ (i : Int) < (G.size : Int) := by omega
     obtain ⟨P, l1, hP⟩ : ∃ P : Nat, Int.tdiv (i : Int) 4096 = P /\ P < n := ⟨i / 4096, by rw [Int.tdiv_eq_ediv_of_nonneg (by omega)]; omega, by have := HN.out; omega⟩
     obtain ⟨L, l2, hL⟩ : ∃ L : Nat, Int.tdiv (i : Int) 4 = L /\ L < m := ⟨i / 4, by rw [Int.tdiv_eq_ediv_of_nonneg (by omega)]; omega, by have := HM.out; omega⟩
     have hPb : P <= 100 := by have := HN.out; omega
     have hLb : L <= 70000 := by have := HM.out; omega
     have wP : IntKind.i64.wrap (P : Int) = P := zq115
     have wL : IntKind.i64.wrap (L : Int) = L := zq115
     have hPn : (0 : Int) <= (P : Int) /\ (P : Int) < (n : Int) := by omega
     have hLn : (0 : Int) <= (L : Int) /\ (L : Int) < (m : Int) := by omega
     go_upto_region 8 with fail
     go_cut [57] from 25 to 94 (fun q wx => (∃ b : Bool, q = .bool b) /\ Hid (Wl w fb gb f g tb b0 b1 b2 b3 b4 n m wx))
     case first =>
      have t2 := hb.out.2.2.1.hdr.cell 2 _ rfl
      have tl := hb.out.2.2.1.hdr.lt
      obtain ⟨r2, e2⟩ := hb.out.2.2.1.s2.cell P hP
      rcases beqC (S[i].toNat : Int) (G[i].toNat : Int) with ⟨g1, g1'⟩ | ⟨g1, g1'⟩
      . exact zq404
      . cases r2
        . exact zq404
        . exact zq404
     case rest =>
      obtain ⟨⟨bs, rfl⟩, h8⟩ := hcut
      clear hb c13 cl d13 dl
      cases bs
      . go_wp2_with fail
        go_roundw
        case rel => exact ⟨i + 1, by omega, by go_num, h8⟩
        case measure => exact zq186
      . have c13 := CF.out _ h8.out.1
        have cl := h8.out.1.lt
        have d13 := CG.out _ h8.out.2.1
        have dl := h8.out.2.1.lt
        go_upto_region 9 with fail
        go_cut [94] from 25 to 94 (fun q wx => (∃ b : Bool, q = .bool b) /\ Hid (Wl w fb gb f g tb b0 b1 b2 b3 b4 n m wx))
        case first =>
         have t3 := h8.out.2.2.1.hdr.cell 3 _ rfl
         have tl := h8.out.2.2.1.hdr.lt
         obtain ⟨r3, e3⟩ := h8.out.2.2.1.s3.cell L hL
         obtain ⟨R, l4, hR⟩ : ∃ R : Nat, Int.tmod (i : Int) 4 = R /\ R < 4 := ⟨i % 4, by rw [Int.tmod_eq_emod_of_nonneg (by omega)]; omega, by omega⟩
         have wR : IntKind.i64.wrap (R : Int) = R := zq115
         rcases beqC (R : Int) 0 with ⟨g3, g3'⟩ | ⟨g3, g3'⟩
         . cases r3
           . exact zq405
           . rcases beqC (bits .or .u8 (S[i].toNat : Int) (bits .and .u8 (G[i].toNat : Int) 192)) (G[i].toNat : Int) with ⟨g4, g4'⟩ | ⟨g4, g4'⟩
             . exact zq405
             . exact zq405
         . exact zq405
        case rest =>
         obtain ⟨⟨bs, rfl⟩, h9⟩ := hcut
         clear h8 c13 cl d13 dl
         cases bs
         . go_wp2_with fail
           go_roundw
           case rel => exact ⟨i + 1, by omega, by go_num, h9⟩
           case measure => exact zq186
         . go_wp2_with fail
           go_ret
           exact ⟨⟨_, rfl⟩, h9.out.2.2.2⟩
   . have hlt' : decide ((i : Int) < (S.size : Int)) = false := by have := SF.out; simp; omega
     have iS : ¬ i < S.size := by have := SF.out; omega
     go_wp2_with fail
     go_ret
     exact ⟨⟨_, rfl⟩, hb.out.2.2.2⟩
end
end Go.Proofs.YtmlgonbhoknoiabGreatDoor
