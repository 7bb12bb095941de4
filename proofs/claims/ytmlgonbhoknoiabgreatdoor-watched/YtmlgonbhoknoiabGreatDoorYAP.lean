import Derived.Test.YtmlgonbhoknoiabGreatDoorYAO
set_option maxHeartbeats 8000000
set_option linter.all false
namespace Go.Proofs.YtmlgonbhoknoiabGreatDoor
open Go.RowKit Go.Proofs.Tryz
theorem pk_list (r : List UInt8) : (pkB r 0 r.length).data.toList = r := by
 unfold pkB
 rw [List.drop_zero, List.take_length]
 unfold strOfNums
 simp [Function.comp_def]
theorem ent_ldS (B : BusS) (a : Nat) : entE B a = ldS (pkB B.ram 0 B.ram.length) (a - 2147483648) := by
 unfold entE rdRam ldS
 rw [pk_list]
def PgM (w : World) (b n P : Nat) : Prop := ∀ p, p < n -> P = p + 524288 -> Tru w b p
def LfM (w : World) (b a : Nat) : Prop := Tru w b ((a - 2147483648) / 4)
theorem mine_eq {X : XS} (hX : XInv X) {f : Fc} (hf : FcX X f) (h3 : X.mode ≠ 3) (e : Nat) : mineB (xC X) e = ((bitN e 4 == (f.mode == 0)) || (bitN e 4 && (f.mode == 1 && (bits .and .i64 (f.status / 262144) 1 == 1)))) := by
 have hs : f.status = ((X.c.mstatus : Nat) : Int) := hf.status
 have hb : (bits .and .i64 (f.status / 262144) 1 == 1) = bitN X.c.mstatus 18 := bit_tst X.c.mstatus 18 hX.ok.mstatus _ (by rw [hs]; rfl)
 have hm := hf.mode
 have e1 : (f.mode == 0) = decide (X.mode = 0) := by rw [hm, Bool.eq_iff_iff]; simp
 have e2 : (f.mode == 1) = decide (X.mode = 1) := by rw [hm, Bool.eq_iff_iff]; simp; omega
 have e3 : decide ((xC X).sum = 1) = bitN X.c.mstatus 18 := rfl
 have e4 : (xC X).mode = X.mode := rfl
 rw [hb, e1, e2]
 unfold mineB
 rw [e3, e4]
 have := hX.ok.mode
 rcases this with h | h | h
 . rw [h]; cases bitN e 4 <;> cases bitN X.c.mstatus 18 <;> rfl
 . rw [h]; cases bitN e 4 <;> cases bitN X.c.mstatus 18 <;> rfl
 . exact absurd h h3
theorem clo_of {X : XS} (hX : XInv X) {f : Fc} (hf : FcX X f) (h3 : X.mode ≠ 3) {w : World} {tb b0 b1 b2 b3 b4 n m : Nat} (hn : n = (X.b.ram.length + 4095) / 4096) (hr : Rt w tb b0 b1 b2 b3 b4 n m f) : Clo (PgM w b0 n) (PgM w b1 n) (PgM w b2 n) (LfM w b3) (xC X) X.b := by
 have hsz : (pkB X.b.ram 0 X.b.ram.length).size = X.b.ram.length := pkB_size _ _ _ (by omega)
 have hsat : f.satp = ((X.c.satp : Nat) : Int) := hf.satp
 have hC : (xC X).satp = X.c.satp := rfl
 have key : ∀ p : Nat, p < n -> X.c.satp % 4194304 = p + 524288 -> ∃ w0, RI w0 w tb b0 b1 b2 b3 b4 n m (f.mode == 0) (f.mode == 1 && (bits .and .i64 (f.status / 262144) 1 == 1)) (pkB X.b.ram 0 X.b.ram.length) p 1024 := by
  intro p hp e
  have := hr p hp (by rw [hsat]; omega)
  rw [hf.ram] at this
  exact this
 -- an entry's place
 have pl : ∀ P a e, EntOf X.b P a e -> ∃ p k, p < n /\ k < 1024 /\ P = p + 524288 /\ a - 2147483648 = p * 4096 + 4 * k /\ p * 4096 + 4 * k + 4 <= X.b.ram.length /\ ldS (pkB X.b.ram 0 X.b.ram.length) (p * 4096 + 4 * k) = e := by
  intro P a e h
  have h1 := holdsD_at h.h
  have h2 := h.al
  have h4 := h.pg
  refine ⟨(a - 2147483648) / 4096, a % 4096 / 4, by omega, by omega, by omega, by omega, by omega, ?_⟩
  have := h.e
  rw [ent_ldS] at this
  rw [show (a - 2147483648) / 4096 * 4096 + 4 * (a % 4096 / 4) = a - 2147483648 by omega]
  exact this
 refine ⟨?_, ?_, ?_⟩
 . intro p hp e
   obtain ⟨w0, h⟩ := key p hp e
   exact h.t0
 . intro a e h lf
   obtain ⟨p, k, hp, hk, e1, e2, e3, e4⟩ := pl _ a e h
   obtain ⟨w0, R⟩ := key p hp e1
   have := R.rd k hk (by rw [hsz]; exact e3)
   unfold Ent at this
   rw [e4] at this
   have := this lf
   refine ⟨?_, fun hm j hj => ⟨fun q hq e5 => ?_, fun hw q hq e5 => ?_⟩⟩
   . unfold LfM; rw [e2]; exact this.1
   . rw [mine_eq hX hf h3] at hm
     exact (this.2 hm j hj q e5 hq).1
   . rw [mine_eq hX hf h3] at hm
     exact (this.2 hm j hj q e5 hq).2 hw
 . intro a e h b0' b1' b3'
   obtain ⟨p, k, hp, hk, e1, e2, e3, e4⟩ := pl _ a e h
   obtain ⟨w0, R⟩ := key p hp e1
   have hpt := R.pt k hk (by rw [hsz]; exact e3)
   rw [e4] at hpt
   have hlo : ∀ q, e / 1024 = q + 524288 -> q < n -> Tru w b0 q /\ Rds w b1 b2 b3 n (f.mode == 0) (f.mode == 1 && (bits .and .i64 (f.status / 262144) 1 == 1)) (pkB X.b.ram 0 X.b.ram.length) q 1 1024 := fun q h1 h2 => R.lo q h2 (hpt ⟨b0', b1', b3'⟩ q h1 h2)
   refine ⟨fun q hq h1 => (hlo q h1 hq).1, fun a' e' h' lf => ?_⟩
   obtain ⟨p', k', hp', hk', g1, g2, g3, g4⟩ := pl _ a' e' h'
   have := (hlo p' g1 hp').2 k' hk' (by rw [hsz]; exact g3)
   unfold Ent at this
   rw [g4] at this
   have := this lf
   refine ⟨?_, fun hm => ⟨fun q hq e5 => ?_, fun hw q hq e5 => ?_⟩⟩
   . unfold LfM; rw [g2]; exact this.1
   . rw [mine_eq hX hf h3] at hm
     exact (this.2 hm 0 (by omega) q e5 hq).1
   . rw [mine_eq hX hf h3] at hm
     exact (this.2 hm 0 (by omega) q e5 hq).2 hw
theorem pgd_of {X : XS} (hX : XInv X) {f : Fc} (hf : FcX X f) (h : (!(f.mode == 3) && (f.satp / 2147483648 == 1)) = true) : Pgd (xC X) /\ X.mode ≠ 3 := by
 have hsat : f.satp = ((X.c.satp : Nat) : Int) := hf.satp
 have hm := hf.mode
 rw [Bool.and_eq_true, hsat, hm] at h
 have h3 : X.mode ≠ 3 := by intro e; rw [e] at h; simp at h
 have h4 : 2147483648 <= X.c.satp := by have := h.2; simp at this; omega
 refine ⟨⟨?_, ?_, h4⟩, h3⟩
 . have := hX.ok.mode
   show X.mode = 0 \/ X.mode = 1
   omega
 . have := hX.mpv h3
   show X.c.mstatus / 2 ^ 17 % 2 = 0
   rw [Nat.testBit_eq_decide_div_mod_eq] at this
   simp at this
   omega
def oneB (v : Int) : ByteArray := ⟨#[UInt8.ofNat v.toNat]⟩
section
variable {T A W F : Nat -> Prop} {X : XS}
theorem setXR_bus (Y : XS) (d u : Nat) : (setXR Y d u).b = Y.b := by unfold setXR; split <;> rfl
theorem ccr_bus (X : XS) (i : NI) : (ccrX X i).b = X.b := by
 have hs : ∀ d v, (setXR X d v).b = X.b := setXR_bus X
 have ite : ∀ {c : Prop} [Decidable c] {Y Z : XS} {m : BusS}, Y.b = m -> Z.b = m -> (if c then Y else Z).b = m := by
  intro c _ Y Z m h1 h2; split <;> assumption
 exact zq397
theorem cro_fr (h : Wal T A W F (xC X) X.b) (i : NI) (v : Nat) : Fr W F X.b.ram (croX X i v).2.b.ram := by
 have hn := nD_le i.op
 unfold croX
 split
 . rw [setXR_bus]; exact Fr.refl _ _ _
 split
 . exact Fr.refl _ _ _
 split
 . have q := (h.wre (vaD X i) (nD i.op) 1 hn.2 hn.1).1
   unfold ldX ldF
   split
   . rw [setXR_bus]
     show Fr W F X.b.ram (loadD _ _).2.ram
     rw [load_ram]; exact q
   . exact q
 split
 . obtain ⟨q, p⟩ := h.wre (vaD X i) (nD i.op) 2 hn.2 hn.1
   unfold stX stF
   split
   . next f =>
     have := p rfl f
     exact q.trans (fr_store _ _ _ this.1 this.2)
   . exact q
 split
 . unfold atX
   split
   . next hal =>
     obtain ⟨s, f, p⟩ := h.wtr (X.x.getD i.rs1 0) (kD i.op)
     unfold wordAtD
     obtain ⟨t, ht⟩ := zn1 (trD X.b (xC X) (X.x.getD i.rs1 0) (kD i.op))
     rw [<- ht] at s f p |-
     unfold wordAtP
     split
     . next h0 =>
       have q := p h0
       split
       . next hh =>
         unfold atF
         rw [if_pos h0]
         dsimp only
         have hp := holdsD_at hh
         have st : kD i.op = 2 -> ∀ z, Fr W F t.2.ram (stN t.2.ram (t.1.1 - 2147483648) 4 z) := fun hk z => fr_st W F _ t.1.1 4 z hp.1 hp.2 (by omega) (q.1 hk)
         unfold atG
         split
         . show Fr W F X.b.ram (setXR _ _ _).b.ram
           rw [setXR_bus]; exact f
         . next h50 =>
           have hk : kD i.op = 2 := by unfold kD; rw [if_neg h50]
           split
           . show Fr W F X.b.ram (setXR _ _ _).b.ram
             rw [setXR_bus]
             cases scB (X.withB t.2) t.1.1
             . exact f.trans (st hk _)
             . exact f
           . unfold amoX
             rw [setXR_bus]
             exact f.trans (st hk _)
       . unfold atF
         rw [if_neg (by dsimp only; omega)]
         exact f
     . next h0 =>
       unfold atF
       rw [if_neg h0]
       exact f
   . exact Fr.refl _ _ _
 split
 . exact Fr.refl _ _ _
 split
 . exact Fr.refl _ _ _
 split
 . show Fr W F X.b.ram (ccrX X i).b.ram
   rw [ccr_bus]; exact Fr.refl _ _ _
 split
 . have : (prvX X i.op).b = X.b := by unfold prvX; (repeat' split) <;> rfl
   show Fr W F X.b.ram (prvX X i.op).b.ram
   rw [this]; exact Fr.refl _ _ _
 . exact Fr.refl _ _ _
theorem ins_fr (h : Wal T A W F (xC X) X.b) : Fr W F X.b.ram (insX X).2.b.ram := by
 obtain ⟨s, f⟩ := h.wfe X.pc
 unfold insX
 split
 . split
   . unfold insR
     have s' : Wal T A W F (xC (X.withB (fetchD X.b (xC X) X.pc).2)) (X.withB (fetchD X.b (xC X) X.pc).2).b := s
     have q := cro_fr s' (niOf (decodeD (fetchD X.b (xC X) X.pc).1.w).1) (fetchD X.b (xC X) X.pc).1.w
     split
     . exact f.trans q
     . exact f.trans q
   . exact f
 . exact f
theorem te_bus (Y : XS) (c t : Nat) : (teX Y c t).b = Y.b /\ (tiX Y c).b = Y.b := by
 unfold teX tiX
 constructor <;> split <;> rfl
theorem step_fr (h : Wal T A W F (xC X) X.b) (hX : XInv X) : Fr W F X.b.ram (stepX X).2.b.ram := by
 have q : Fr W F X.b.ram (insX (wakX X)).2.b.ram := ins_fr (X := wakX X) h
 rcases step_is hX with ⟨_, _, e⟩ | ⟨c, _, _, e⟩ | ⟨_, _, _, e⟩ | ⟨_, c, _, _, _, e⟩
 . rw [e]; exact Fr.refl _ _ _
 . rw [e]
   show Fr W F X.b.ram (tiX (wakX X) c).b.ram
   rw [(te_bus _ _ 0).2]; exact Fr.refl _ _ _
 . rw [e]; exact q
 . rw [e]
   show Fr W F X.b.ram (teX (insX (wakX X)).2 c (insX (wakX X)).1.2.2).b.ram
   rw [(te_bus _ _ _).1]; exact q
def Wld (w : World) (b2 b3 : Nat) (f g : ByteArray) : Prop := ∀ i (h1 : i < f.size) (h2 : i < g.size), f[i] = g[i] \/ Tru w b2 (i / 4096) \/ (i % 4 = 0 /\ Tru w b3 (i / 4) /\ ADs f[i] g[i])
theorem pk_get' (r : List UInt8) (n : Nat) (h : n < (pkB r 0 r.length).size) : (pkB r 0 r.length)[n] = r.getD n 0 := by
 have h2 : n < r.length := by rw [pkB_size _ _ _ (by omega)] at h; exact h
 have : (pkB r 0 r.length)[n] = (pkB r 0 r.length).data.toList[n]'(by rw [pk_list]; exact h2) := rfl
 rw [this, List.getD_eq_getElem?_getD, List.getElem?_eq_getElem h2]
 simp [pk_list]
theorem wld_of {X : XS} (hX : XInv X) {f g : Fc} (fx : FcX X f) (gx : FcX (stepX X).2 g) (hp : (!(f.mode == 3) && (f.satp / 2147483648 == 1)) = true) {w : World} {tb b0 b1 b2 b3 b4 n m : Nat} (hn : n = (X.b.ram.length + 4095) / 4096) (hr : Rt w tb b0 b1 b2 b3 b4 n m f) : Wld w b2 b3 f.ram g.ram := by
 have pg := pgd_of hX fx hp
 have cl := clo_of hX fx pg.2 hn hr
 have q := step_fr ⟨cl, pg.1⟩ hX
 have e1 := fx.ram
 have e2 := gx.ram
 generalize f.ram = R at e1
 generalize g.ram = S at e2
 subst e1 e2
 intro i h1 h2
 rw [pk_get', pk_get']
 have h3 : i < X.b.ram.length := by rw [pkB_size _ _ _ (by omega)] at h1; exact h1
 rcases q.b i h3 with a | a | a
 . right; left
   exact a (i / 4096) (by omega) (by omega)
 . left; exact a.symm
 . right; right
   have l : Tru w b3 ((i + 2147483648 - 2147483648) / 4) := a.2.1
   rw [Nat.add_sub_cancel] at l
   exact ⟨a.1, l, a.2.2⟩
end
section
attribute [local go_sem ↓] Go.wp_at_zero Go.wp_at_succ
theorem bv8 (a : Nat) (h : a < 256) : (BitVec.ofInt 8 (a : Int)).toNat = a := by
 rw [BitVec.toNat_ofInt]
 have e : ((2 ^ 8 : Nat) : Int) = 256 := by decide
 rw [e, Int.emod_eq_of_lt (by omega) (by omega)]; omega
theorem w8 (a : Nat) (h : a < 256) : IntKind.u8.wrap (a : Int) = a := by rw [IntKind.wrap_u8]; omega
theorem ads_bits (a b : UInt8) (h : ADs a b) : bits .or .u8 (a.toNat : Int) (bits .and .u8 (b.toNat : Int) 192) = (b.toNat : Int) := by
 have ha := a.toNat_lt
 have hb := b.toNat_lt
 have h1 : bits .and .u8 (b.toNat : Int) 192 = ((b.toNat &&& 192 : Nat) : Int) := by
  have hx : bits .and .u8 (b.toNat : Int) ((192 : Nat) : Int) = IntKind.u8.wrap (((BitVec.ofInt 8 (b.toNat : Int) &&& BitVec.ofInt 8 ((192 : Nat) : Int)).toNat : Nat) : Int) := rfl
  have hx' : bits .and .u8 (b.toNat : Int) 192 = bits .and .u8 (b.toNat : Int) ((192 : Nat) : Int) := rfl
  rw [hx', hx, BitVec.toNat_and, bv8 _ hb, bv8 _ (by decide)]
  exact w8 _ (Nat.lt_of_le_of_lt Nat.and_le_left hb)
 have l : b.toNat &&& 192 < 256 := Nat.lt_of_le_of_lt Nat.and_le_left hb
 rw [h1]
 have hx : bits .or .u8 (a.toNat : Int) ((b.toNat &&& 192 : Nat) : Int) = IntKind.u8.wrap (((BitVec.ofInt 8 (a.toNat : Int) ||| BitVec.ofInt 8 ((b.toNat &&& 192 : Nat) : Int)).toNat : Nat) : Int) := rfl
 rw [hx, BitVec.toNat_or, bv8 _ ha, bv8 _ l, <- show b.toNat = a.toNat ||| (b.toNat &&& 192) from h]
 exact w8 _ hb
theorem Wld.kept {w w' : World} {b2 b3 : Nat} {f g : ByteArray} (h : Wld w b2 b3 f g) (hk : Kept [] w w') (l2 : b2 < w.heap.size) (l3 : b3 < w.heap.size) : Wld w' b2 b3 f g := fun i h1 h2 => by
 rcases h i h1 h2 with a | a | a
 . exact .inl a
 . exact .inr (.inl (Up.kept hk _ _ l2 a))
 . exact .inr (.inr ⟨a.1, Up.kept hk _ _ l3 a.2.1, a.2.2⟩)
def Wm (w0 : World) (fb gb : Nat) (f g : Fc) (tb b0 b1 b2 b3 b4 n m : Nat) (w : World) : Prop := BoxF w fb f.l /\ BoxF w gb g.l /\ Tabs w tb b0 b1 b2 b3 b4 n m /\ Kept [] w0 w /\ Wld w b2 b3 f.ram g.ram
theorem Wm.drewN {w0 : World} {fb gb : Nat} {f g : Fc} {tb b0 b1 b2 b3 b4 n m : Nat} {w : World} (h : Wm w0 fb gb f g tb b0 b1 b2 b3 b4 n m w) (k : Nat) : Wm w0 fb gb f g tb b0 b1 b2 b3 b4 n m (w.drewN k) :=
 have hk : Kept [] w (w.drewN k) := (Kept.refl [] w).drewN k
 ⟨h.1.kept hk, h.2.1.kept hk, h.2.2.1.kept hk, h.2.2.2.1.trans hk, h.2.2.2.2.kept hk h.2.2.1.s2.lt h.2.2.1.s3.lt⟩
set_option maxRecDepth 100000 in
theorem k_walledT (fb gb z : Nat) (X : XS) (hX : XInv X) (hzz : X.b.ram.length = z) (f g : Fc) (fx : FcX X f) (gx : FcX (stepX X).2 g) (hz : z <= 65536) (hf1 : FcOk f z) (hg1 : FcOk g z) (w : World) (hf : Hid (BoxF w fb f.l)) (hg : Hid (BoxF w gb g.l)) : CK 60 #[.pointer (some ⟨fb, 0, none⟩), .pointer (some ⟨gb, 0, none⟩)] (.bool true) w := by
 have WD : Hid ((!(f.mode == 3) && (f.satp / 2147483648 == 1)) = true -> ∀ W tb b0 b1 b2 b3 b4, Rt W tb b0 b1 b2 b3 b4 ((z + 4095) / 4096) (z / 4 + 1) f -> Wld W b2 b3 f.ram g.ram) := hide1 (fun hp W tb b0 b1 b2 b3 b4 hr => wld_of hX fx gx hp (by rw [hzz]) hr)
 clear hX fx gx hzz
 have PG := hide1 (k_paged fb f w hf)
 have TO := hide1 (fun W hW => k_tablesOf fb z f hz hf1 W hW)
 have c13 := hf.out.cell 13 _ rfl
 have d13 := hg.out.cell 13 _ rfl
 have cl := hf.out.lt
 have dl := hg.out.lt
 have sf := hf1.ram
 have sg := hg1.ram
 obtain ⟨S, hS⟩ := zn1 (f.ram)
 obtain ⟨G, hG⟩ := zn1 (g.ram)
 have CF := hide1 (fun (W : World) (h : BoxF W fb f.l) => (h.cell 13 _ rfl : W.cell? ⟨fb, 13, none⟩ = some (.string f.ram)))
 have CG := hide1 (fun (W : World) (h : BoxF W gb g.l) => (h.cell 13 _ rfl : W.cell? ⟨gb, 13, none⟩ = some (.string g.ram)))
 rw [<- hS] at c13 sf CF
 rw [<- hG] at d13 sg CG
 obtain ⟨n, hn⟩ := zn1 ((z + 4095) / 4096 : Nat)
 obtain ⟨m, hm⟩ := zn1 (z / 4 + 1 : Nat)
 rw [<- hn, <- hm] at TO WD
 have HN := hide1 hn
 have HM := hide1 hm
 have SF := hide1 sf
 have SG := hide1 sg
 have WS : Hid (∀ W b2 b3, Wld W b2 b3 f.ram g.ram -> Wld W b2 b3 S G) := hide1 (by rw [hS, hG]; exact fun _ _ _ h => h)
 clear hS hG hn hm hf1 hg1 sf sg
 go_enter func60, ntmps60
 go_wp2_with fail
 refine PG.out.mono ?_
 rintro o w1 ⟨rfl, hw1⟩
 rw [hw1]
 obtain ⟨on, hon⟩ := zn2 ((!(f.mode == 3) && (f.satp / 2147483648 == 1)))
 rw [hon]
 rw [hon] at WD
 clear hon
 clear hw1 w1 PG
 cases on
 . clear WD
   exact zq434
 cases hq : (S.toList == G.toList)
 rotate_left
 . exact zq434
 go_upto_region 2 with fail
 go_quiet (fail)
 all_goals
  have hf2 : Hid (BoxF (w.drewN nq) fb f.l) := hide1 (hf.out.kept ((Kept.refl [] w).drewN nq))
  have hg2 : Hid (BoxF (w.drewN nq) gb g.l) := hide1 (hg.out.kept ((Kept.refl [] w).drewN nq))
  have T1 := hide1 (TO.out _ hf2)
  clear TO hf hg c13 d13
  go_wp2_with fail
  refine T1.out.mono ?_
  rintro o w2 ⟨⟨tb, b0, b1, b2, b3, b4, rfl, htb, hrt⟩, hk2⟩
  have W2 : Hid (Wm w fb gb f g tb b0 b1 b2 b3 b4 n m w2) := hide1 ⟨hf2.out.kept hk2, hg2.out.kept hk2, htb, ((Kept.refl [] w).drewN nq).trans hk2, WD.out (by trivial) _ _ _ _ _ _ _ hrt⟩
  clear hf2 hg2 T1 htb hk2 hrt WD
  go_wp2_with fail
  go_loopw [7] (fun x wr => ∃ i : Nat, i <= z /\ x = .int .i64 i /\ Hid (Wm w fb gb f g tb b0 b1 b2 b3 b4 n m wr)) (fun x _ => z - (intOf x).toNat)
  case atStart => exact ⟨0, by omega, rfl, W2⟩
  case round =>
   obtain ⟨i, hi, rfl, hb⟩ := hrel
   clear W2
   have c13 := CF.out wr hb.out.1
   have cl := hb.out.1.lt
   have d13 := CG.out wr hb.out.2.1
   have dl := hb.out.2.1.lt
   by_cases hlt : i < z
   . have hlt' : decide ((i : Int) < (S.size : Int)) = true := by have := SF.out; simp; omega
     have iS : i < S.size := by have := SF.out; omega
     have iG : i < G.size := by have := SG.out; omega
     have jS : (0 : Int) <= (i : Int) /\ (i : Int) < (S.size : Int) := by omega
     have jG : (0 : Int) <= (i : Int) /\ (i : Int) < (G.size : Int) := by omega
     obtain ⟨P, l1, hP⟩ : ∃ P : Nat, Int.tdiv (i : Int) 4096 = P /\ P < n := ⟨i / 4096, by rw [Int.tdiv_eq_ediv_of_nonneg (by omega)]; omega, by have := HN.out; omega⟩
     obtain ⟨L, l2, hL⟩ : ∃ L : Nat, Int.tdiv (i : Int) 4 = L /\ L < m := ⟨i / 4, by rw [Int.tdiv_eq_ediv_of_nonneg (by omega)]; omega, by have := HM.out; omega⟩
     have LP := hide1 (show i / 4096 = P by rw [Int.tdiv_eq_ediv_of_nonneg (by omega)] at l1; omega)
     have LL := hide1 (show i / 4 = L by rw [Int.tdiv_eq_ediv_of_nonneg (by omega)] at l2; omega)
     have WI : Hid (∀ W, Wm w fb gb f g tb b0 b1 b2 b3 b4 n m W -> (S[i]'iS = G[i]'iG \/ Tru W b2 (i / 4096) \/ (i % 4 = 0 /\ Tru W b3 (i / 4) /\ ADs (S[i]'iS) (G[i]'iG)))) := hide1 (fun W hW => WS.out _ _ _ hW.2.2.2.2 i iS iG)
     have hPb : P <= 100 := by have := HN.out; omega
     have hLb : L <= 70000 := by have := HM.out; omega
     have wP : IntKind.i64.wrap (P : Int) = P := zq115
     have wL : IntKind.i64.wrap (L : Int) = L := zq115
     have hPn : (0 : Int) <= (P : Int) /\ (P : Int) < (n : Int) := by omega
     have hLn : (0 : Int) <= (L : Int) /\ (L : Int) < (m : Int) := by omega
     go_upto_region 8 with fail
     go_cut [57] from 25 to 94 (fun q wx => (∃ b : Bool, q = .bool b /\ Hid (b = true -> i % 4 = 0 /\ Tru wr b3 (i / 4) /\ ADs (S[i]'iS) (G[i]'iG))) /\ ∃ n', wx = wr.drewN n')
     case first =>
      have t2 := hb.out.2.2.1.hdr.cell 2 _ rfl
      have tl := hb.out.2.2.1.hdr.lt
      obtain ⟨r2, e2⟩ := hb.out.2.2.1.s2.cell P hP
      have W1 := hide1 (WI.out wr hb.out)
      rcases beqC (S[i].toNat : Int) (G[i].toNat : Int) with ⟨g1, g1'⟩ | ⟨g1, g1'⟩
      . exact zq435
      . cases r2
        . have W2 : Hid (i % 4 = 0 /\ Tru wr b3 (i / 4) /\ ADs (S[i]'iS) (G[i]'iG)) := hide1 (by
           rcases W1.out with q | q | q
           . exact absurd (congrArg (fun x : UInt8 => (x.toNat : Int)) q) (by simpa using g1)
           . rw [LP.out] at q; unfold Tru at q; rw [e2] at q; simp at q
           . exact q)
          as_aux_lemma =>
           go_quiet (fail)
           all_goals
            go_wp2_with fail
            go_meet
            case rel => exact ⟨⟨_, rfl, hide1 (fun _ => W2.out)⟩, _, rfl⟩
        . exact zq435
     case rest =>
      obtain ⟨⟨bs, rfl, hbs⟩, nx, hwx⟩ := hcut
      have h8 : Hid (Wm w fb gb f g tb b0 b1 b2 b3 b4 n m wc) := hide1 (by rw [hwx]; exact hb.out.drewN nx)
      have U8 : Hid (Tru wr b3 L -> Tru wc b3 L) := hide1 (by rw [hwx]; exact Up.kept ((Kept.refl [] wr).drewN nx) _ _ hb.out.2.2.1.s3.lt)
      clear c13 cl d13 dl hwx
      cases bs
      . clear hb hbs
        go_wp2_with fail
        go_roundw
        case rel => exact ⟨i + 1, by omega, by go_num, h8⟩
        case measure => exact zq191
      . have c13 := CF.out _ h8.out.1
        have cl := h8.out.1.lt
        have d13 := CG.out _ h8.out.2.1
        have dl := h8.out.2.1.lt
        go_upto_region 9 with fail
        obtain ⟨y1, y2, y3⟩ := hbs.out rfl
        go_cut [94] from 25 to 94 (fun q wx => q = .bool false /\ Hid (Wm w fb gb f g tb b0 b1 b2 b3 b4 n m wx))
        case first =>
         have t3 := h8.out.2.2.1.hdr.cell 3 _ rfl
         have tl := h8.out.2.2.1.hdr.lt
         obtain ⟨r3, e3⟩ := h8.out.2.2.1.s3.cell L hL
         obtain ⟨R, l4, hR⟩ : ∃ R : Nat, Int.tmod (i : Int) 4 = R /\ R < 4 := ⟨i % 4, by rw [Int.tmod_eq_emod_of_nonneg (by omega)]; omega, by omega⟩
         have wR : IntKind.i64.wrap (R : Int) = R := zq115
         have r0 : R = 0 := by rw [Int.tmod_eq_emod_of_nonneg (by omega)] at l4; omega
         have ⟨g3, g3'⟩ := beqT (show (R : Int) = 0 by omega)
         have er : r3 = true := by
          rw [LL.out] at y2
          have y4 := U8.out y2
          unfold Tru at y4
          rw [e3] at y4
          simpa using y4
         have ⟨g4, g4'⟩ := beqT (ads_bits _ _ y3)
         subst er
         clear hb y1 y2 y3 r0
         as_aux_lemma =>
          go_quiet (fail)
          all_goals
           go_wp2_with fail
           go_meet
           case rel => exact ⟨rfl, hide1 (h8.out.drewN _)⟩
        case rest =>
         obtain ⟨rfl, h9⟩ := hcut
         clear h8 c13 cl d13 dl hb y1 y2 y3
         go_wp2_with fail
         go_roundw
         case rel => exact ⟨i + 1, by omega, by go_num, h9⟩
         case measure => exact zq191
   . have hlt' : decide ((i : Int) < (S.size : Int)) = false := by have := SF.out; simp; omega
     have iS : ¬ i < S.size := by have := SF.out; omega
     go_wp2_with fail
     go_ret
     exact ⟨rfl, hb.out.2.2.2.1⟩
def AtR (X : XS) (o : Ending) : Prop := ∃ I : Ins, o = .returned (insV I) /\ (I.ln ≠ 0 -> AtF X I)
theorem k_Decode (x : Int) (w : World) : CK 86 #[.int .i64 x] (.tuple #[insV (decodeD x).1, .int .i64 (decodeD x).2]) w := by
 refine (i_Decode x w).mono ?_
 rintro o w' ⟨rfl, h⟩
 exact ⟨rfl, Below.kept h []⟩
def Sa (w0 : World) (fb rb : Nat) (f : Fc) (w : World) : Prop := BoxF w fb f.l /\ BoxF w rb [.int .i64 0, .int .i64 0, .int .i64 0, .int .i64 0, .int .i64 0, .int .i64 0] /\ Kept [] w0 w
theorem Sa.kept {w0 : World} {fb rb : Nat} {f : Fc} {w w' : World} (h : Sa w0 fb rb f w) (hk : Kept [] w w') : Sa w0 fb rb f w' := ⟨h.1.kept hk, h.2.1.kept hk, h.2.2.trans hk⟩
theorem Sa.drewN {w0 : World} {fb rb : Nat} {f : Fc} {w : World} (h : Sa w0 fb rb f w) (n : Nat) : Sa w0 fb rb f (w.drewN n) := h.kept ((Kept.refl [] w).drewN n)
theorem Sa.six {w0 : World} {fb rb : Nat} {f : Fc} {w : World} (h : Sa w0 fb rb f w) (hr : w0.heap.size <= rb) (a0 a1 a2 a3 a4 a5 : Value) : BoxF ((((((w.setCell ⟨rb, 0, none⟩ a0).setCell ⟨rb, 1, none⟩ a1).setCell ⟨rb, 2, none⟩ a2).setCell ⟨rb, 3, none⟩ a3).setCell ⟨rb, 4, none⟩ a4).setCell ⟨rb, 5, none⟩ a5) rb [a0, a1, a2, a3, a4, a5] /\ Kept [] w0 ((((((w.setCell ⟨rb, 0, none⟩ a0).setCell ⟨rb, 1, none⟩ a1).setCell ⟨rb, 2, none⟩ a2).setCell ⟨rb, 3, none⟩ a3).setCell ⟨rb, 4, none⟩ a4).setCell ⟨rb, 5, none⟩ a5) :=
 ⟨(((((h.2.1.set 0 a0 (by simp)).set 1 a1 (by simp)).set 2 a2 (by simp)).set 3 a3 (by simp)).set 4 a4 (by simp)).set 5 a5 (by simp), (((((h.2.2.setCell (.inr hr) a0).setCell (.inr hr) a1).setCell (.inr hr) a2).setCell (.inr hr) a3).setCell (.inr hr) a4).setCell (.inr hr) a5⟩
theorem at_ret (W : World) (rb : Nat) (T : Array Value) (a0 a1 a2 a3 a4 a5 : Int) (bx : BoxF W rb [.int .i64 a0, .int .i64 a1, .int .i64 a2, .int .i64 a3, .int .i64 a4, .int .i64 a5]) (hT : T[2]?.getD undef = .pointer (some ⟨rb, 0, none⟩)) {Q : Ending -> World -> Prop} (h : Q (.returned (.agg #[.int .i64 a0, .int .i64 a1, .int .i64 a2, .int .i64 a3, .int .i64 a4, .int .i64 a5])) W) : bodyPost prog Tryz.f54 Q .ret ⟨T, []⟩ W := by
 have z0 := bx.cell 0 _ rfl
 have z1 := bx.cell 1 _ rfl
 have z2 := bx.cell 2 _ rfl
 have z3 := bx.cell 3 _ rfl
 have z4 := bx.cell 4 _ rfl
 have z5 := bx.cell 5 _ rfl
 refine bodyPost_ret (v := .agg #[.int .i64 a0, .int .i64 a1, .int .i64 a2, .int .i64 a3, .int .i64 a4, .int .i64 a5]) (by simp [results, results54, go_sem, hT, z0, z1, z2, z3, z4, z5]) rfl h
set_option maxRecDepth 100000 in
theorem k_at (fb : Nat) (X : XS) (hX : XInv X) (f : Fc) (fx : FcX X f) (w : World) (hf : Hid (BoxF w fb f.l)) : Calls prog 54 #[.pointer (some ⟨fb, 0, none⟩)] w fun o w' => AtR X o /\ Kept [] w w' := by
 have zr : f.ram.size = X.b.ram.length := by rw [fx.ram, pkB_size _ _ _ (by omega)]
 have hz := hX.ok.b.ram
 have pp : 0 <= f.pc /\ f.pc < 4294967296 := by rw [fx.pc]; have := hX.ok.pc; omega
 have NP : Hid (f.mode = 3 \/ ¬ f.satp / 2147483648 = 1 -> pgD (xC X) 0 = false) := hide1 (fun h => by
  have e1 := fx.mode
  have e2 : f.satp = ((X.c.satp : Nat) : Int) := fx.satp
  have h2 := hX.ok.satp
  have e4 : actsD (xC X) ((0 : Nat) : Int) = X.mode := rfl
  have e3 : pgD (xC X) 0 = if decide (X.mode < 3) = true then decide (2147483648 <= X.c.satp) else false := by unfold pgD; rw [e4]; rfl
  rw [e3]
  rcases h with h | h
  . rw [if_neg (by simp; omega)]
  . split
    . simp; omega
    . rfl)
 have I0 : Hid (AtR X (.returned (.agg #[.int .i64 0, .int .i64 0, .int .i64 0, .int .i64 0, .int .i64 0, .int .i64 0]))) := hide1 ⟨⟨0, 0, 0, 0, 0, 0⟩, rfl, fun h => absurd rfl h⟩
 have A2 : Hid (pgD (xC X) 0 = false -> ∀ n : Nat, f.pc - 2147483648 = n -> n + 2 <= X.b.ram.length -> ∀ x : Nat, rdRam X.b n 2 = x -> x % 4 ≠ 3 -> AtF X (decodeD (x : Int)).1) := hide1 (fun hp n hn h2 x hx h3 => at_2 hp n x (by have := fx.pc; omega) h2 hx h3)
 have A4 : Hid (pgD (xC X) 0 = false -> ∀ n : Nat, f.pc - 2147483648 = n -> n + 4 <= X.b.ram.length -> ∀ x y : Nat, rdRam X.b n 2 = x -> x % 4 = 3 -> x + rdRam X.b (n + 2) 2 * 65536 = y -> AtF X (decodeD (y : Int)).1) := hide1 (fun hp n hn h2 x y hx h3 hy => at_4 hp n x y (by have := fx.pc; omega) h2 hz hx h3 hy)
 have RD : Hid (∀ (s : ByteArray), s = f.ram -> ∀ n (h : n + 1 < s.size), rdRam X.b n 2 = (s[n]'(by omega)).toNat + 256 * (s[n + 1]'h).toNat) := hide1 (by
  rintro s rfl n h
  rw [rd_2 X.b n (by omega)]
  have e : ∀ (k : Nat) (hk : k < f.ram.size), f.ram[k] = X.b.ram.getD k 0 := by
   have := fx.ram
   generalize f.ram = R at this
   subst this
   exact fun k hk => pk_get _ k hk
  rw [e, e])
 have R2 : Hid (∀ n, rdRam X.b n 2 < 65536) := hide1 (fun n => rdRam_lt X.b n 2)
 clear hX fx
 obtain ⟨rb, hrb⟩ := zn1 (w.heap.size)
 have s0 : Hid (Sa w fb rb f (w.alloc (.cells #[.int .i64 0, .int .i64 0, .int .i64 0, .int .i64 0, .int .i64 0, .int .i64 0] 60))) := hide1 ⟨hf.out.kept ((Kept.refl [] w).alloc _), by rw [hrb]; exact BoxF.new w [.int .i64 0, .int .i64 0, .int .i64 0, .int .i64 0, .int .i64 0, .int .i64 0] _, (Kept.refl [] w).alloc _⟩
 have gr : w.heap.size <= rb := by omega
 go_enter func54, ntmps54
 go_upto_region 1 with fail
 rw [<- hrb]
 obtain ⟨W, hW⟩ := zn1 (w.alloc (.cells #[.int .i64 0, .int .i64 0, .int .i64 0, .int .i64 0, .int .i64 0, .int .i64 0] 60))
 rw [<- hW] at s0 |-
 clear hW hrb hf
 obtain ⟨O, hO⟩ := zn2 (f.pc - 2147483648 : Int)
 rw [hO] at A2 A4
 have wO : IntKind.i64.wrap O = O := zq115
 have f0 := s0.out.1.cell 0 _ rfl
 have f1 := s0.out.1.cell 1 _ rfl
 have f7 := s0.out.1.cell 7 _ rfl
 have f13 := s0.out.1.cell 13 _ rfl
 have fl := s0.out.1.lt
 obtain ⟨s, hs⟩ := zn1 (f.ram)
 rw [<- hs] at zr f13
 have H13 := hide1 (fun (W : World) (h : Sa w fb rb f W) => (by rw [hs]; exact h.1.cell 13 _ rfl : W.cell? ⟨fb, 13, none⟩ = some (.string s)))
 have RS := hide1 (RD.out s hs)
 clear hs RD
 rw [<- zr] at A2 A4 hz
 clear zr
 have wO2 : IntKind.i64.wrap (O + 2) = O + 2 := zq115
 go_upto_region 2 with fail
 go_cut [38] (fun q wx => (∃ b : Bool, q = .bool b /\ Hid (b = false -> (0 <= O /\ O + 2 <= s.size) /\ pgD (xC X) 0 = false)) /\ Hid (Sa w fb rb f wx))
 case first =>
  by_cases h0 : O < 0
  . have h0' : decide (O < 0) = true := by simp; omega
    exact zq437
  have h0' : decide (O < 0) = false := by simp; omega
  by_cases h1 : (s.size : Int) < O + 2
  . have h1' : decide ((s.size : Int) < O + 2) = true := by simp; omega
    exact zq437
  have h1' : decide ((s.size : Int) < O + 2) = false := by simp; omega
  rcases beqC f.mode 3 with ⟨ga, gb⟩ | ⟨ga, gb⟩ <;> rcases beqC (f.satp / 2147483648) 1 with ⟨gc, gd⟩ | ⟨gc, gd⟩
  all_goals
   as_aux_lemma =>
    go_wp2_with fail
    all_goals
     go_meet
     case rel => first
      | exact ⟨⟨_, rfl, hide1 (fun _ => ⟨by omega, NP.out (.inl (eq_of_beq ga))⟩)⟩, s0⟩
      | exact ⟨⟨_, rfl, hide1 (fun _ => ⟨by omega, NP.out (.inr (by simpa using gc))⟩)⟩, s0⟩
      | exact ⟨⟨_, rfl, hide1 (by simp)⟩, s0⟩
 case rest =>
 obtain ⟨⟨b, rfl, hb⟩, s1⟩ := hcut
 clear s0 f0 f1 f7 f13 fl
 cases b
 rotate_left
 . have se := s1
   exact zq438
 obtain ⟨⟨o0, o1⟩, hpg⟩ := hb.out rfl
 have B2 := hide1 (A2.out hpg)
 have B4 := hide1 (A4.out hpg)
 clear hb A2 A4 NP hpg
 obtain ⟨n, hn⟩ : ∃ n : Nat, O = n := ⟨O.toNat, by omega⟩
 subst hn
 have f13 := H13.out _ s1.out
 have fl := s1.out.1.lt
 have i0 : n < s.size := by omega
 have i1 : n + 1 < s.size := by omega
 have w1 : IntKind.i64.wrap ((n : Int) + 1) = (n : Int) + 1 := zq115
 have j0 : (0 : Int) <= (n : Int) /\ (n : Int) < (s.size : Int) := by omega
 have j1 : (0 : Int) <= (n : Int) + 1 /\ (n : Int) + 1 < (s.size : Int) := by omega
 go_upto_region 4 with fail
 obtain ⟨x, hx0⟩ := zn2 (rdRam X.b n 2)
 have hx1 : x < 65536 := by rw [<- hx0]; exact R2.out n
 have XE : Hid (bits .or .i64 (wrap64 (s[n].toNat : Int)) (wrap64 (wrap64 (s[n + 1].toNat : Int) * 256)) = (x : Int)) := hide1 (by rw [or_2 _ _ (UInt8.toNat_lt _) (UInt8.toNat_lt _), <- RS.out n i1, hx0])
 have X0 := hide1 hx0
 clear hx0
 go_cut [4] (fun q wx => q = .int .i64 x /\ Hid (Sa w fb rb f wx))
 case first =>
  as_aux_lemma =>
   go_quiet (fail)
   all_goals
    go_wp2_with fail
    go_meet
    case rel => exact ⟨congrArg (fun x => Value.int .i64 x) XE.out, hide1 (s1.out.drewN _)⟩
 case rest =>
 obtain ⟨rfl, s2⟩ := hcut
 clear s1 f13 fl i0 i1 w1 j0 j1 XE
 have f13 := H13.out _ s2.out
 have fl := s2.out.1.lt
 have w4 : IntKind.i64.wrap ((n : Int) + 4) = (n : Int) + 4 := zq115
 have X3 := hide1 (and_3 x hx1)
 by_cases hx : (bits .and .i64 x 3 == 3) = true
 rotate_left
 . have hx' : (bits .and .i64 x 3 == 3) = false := by simpa using hx
   have AR : Hid (AtR X (.returned (insV (decodeD (x : Int)).1))) := hide1 ⟨_, rfl, fun _ => B2.out n rfl (by omega) x X0.out (by rw [X3.out] at hx; simp at hx; omega)⟩
   clear hx
   go_wp2_with fail
   refine (k_Decode _ _).mono ?_
   rintro o wd ⟨rfl, hk⟩
   obtain ⟨⟨a0, a1, a2, a3, a4, a5⟩, hI⟩ : ∃ I, (decodeD (x : Int)).1 = I := ⟨_, rfl⟩
   rw [hI] at AR |-
   clear hI
   obtain ⟨e, he⟩ := zn2 ((decodeD (x : Int)).2)
   rw [he]
   clear he
   unfold insV
   dsimp only
   have se := hide1 (s2.out.kept hk)
   clear s2 hk
   exact zq436
 by_cases h4 : (s.size : Int) < (n : Int) + 4
 . have h4' : decide ((s.size : Int) < (n : Int) + 4) = true := by simp; omega
   clear h4
   have se := s2
   exact zq438
 have h4' : decide ((s.size : Int) < (n : Int) + 4) = false := by simp; omega
 have i2 : n + 2 < s.size := by omega
 have i3 : n + 3 < s.size := by omega
 have w2 : IntKind.i64.wrap ((n : Int) + 2) = (n : Int) + 2 := zq115
 have w3 : IntKind.i64.wrap ((n : Int) + 3) = (n : Int) + 3 := zq115
 have j2 : (0 : Int) <= (n : Int) + 2 /\ (n : Int) + 2 < (s.size : Int) := by omega
 have j3 : (0 : Int) <= (n : Int) + 3 /\ (n : Int) + 3 < (s.size : Int) := by omega
 go_upto_region 8 with fail
 obtain ⟨y, hy0⟩ := zn2 (x + rdRam X.b (n + 2) 2 * 65536)
 have YE : Hid (bits .or .i64 (bits .or .i64 (x : Int) (wrap64 (wrap64 (s[n + 2].toNat : Int) * 65536))) (wrap64 (wrap64 (s[n + 3].toNat : Int) * 16777216)) = (y : Int)) := hide1 (by rw [or_4 x _ _ hx1 (UInt8.toNat_lt _) (UInt8.toNat_lt _), <- RS.out (n + 2) i3, hy0])
 have AR : Hid (AtR X (.returned (insV (decodeD (y : Int)).1))) := hide1 ⟨_, rfl, fun _ => B4.out n rfl (by omega) x y X0.out (by rw [X3.out] at hx; simp at hx; omega) hy0⟩
 clear hy0
 go_cut [4] (fun q wx => q = .int .i64 y /\ Hid (Sa w fb rb f wx))
 case first =>
  as_aux_lemma =>
   go_quiet (fail)
   all_goals
    go_wp2_with fail
    go_meet
    case rel => exact ⟨congrArg (fun x => Value.int .i64 x) YE.out, hide1 (s2.out.drewN _)⟩
 case rest =>
 obtain ⟨rfl, s3⟩ := hcut
 clear s2 YE
 go_wp2_with fail
 refine (k_Decode _ _).mono ?_
 rintro o wd ⟨rfl, hk⟩
 obtain ⟨⟨a0, a1, a2, a3, a4, a5⟩, hI⟩ : ∃ I, (decodeD (y : Int)).1 = I := ⟨_, rfl⟩
 rw [hI] at AR |-
 clear hI
 obtain ⟨e, he⟩ := zn2 ((decodeD (y : Int)).2)
 rw [he]
 clear he
 unfold insV
 dsimp only
 have se := hide1 (s3.out.kept hk)
 clear s3 hk
 exact zq436
structure Wv (w0 : World) (fb gb ib db mb rb : Nat) (Y : XS) (f g : Fc) (a0 a1 a2 a3 a4 a5 k c : Int) (w : World) : Prop where
 f : BoxF w fb f.l
 g : BoxF w gb g.l
 i : BoxF w ib [.int .i64 a0, .int .i64 a1, .int .i64 a2, .int .i64 a3, .int .i64 a4, .int .i64 a5]
 d : BoxF w db [.int .i64 k, .int .i64 c]
 m : XAt w mb rb Y
 kp : Kept [mb, rb] w0 w
theorem Wv.kept {w0 : World} {fb gb ib db mb rb : Nat} {Y : XS} {f g : Fc} {a0 a1 a2 a3 a4 a5 k c : Int} {w w' : World} (h : Wv w0 fb gb ib db mb rb Y f g a0 a1 a2 a3 a4 a5 k c w) (hk : Kept [] w w') : Wv w0 fb gb ib db mb rb Y f g a0 a1 a2 a3 a4 a5 k c w' :=
 ⟨h.f.kept hk, h.g.kept hk, h.i.kept hk, h.d.kept hk, h.m.kept hk, h.kp.trans (hk.mono (by simp))⟩
theorem Wv.drewN {w0 : World} {fb gb ib db mb rb : Nat} {Y : XS} {f g : Fc} {a0 a1 a2 a3 a4 a5 k c : Int} {w : World} (h : Wv w0 fb gb ib db mb rb Y f g a0 a1 a2 a3 a4 a5 k c w) (n : Nat) : Wv w0 fb gb ib db mb rb Y f g a0 a1 a2 a3 a4 a5 k c (w.drewN n) := h.kept ((Kept.refl [] w).drewN n)
theorem Wv.st {w0 : World} {fb gb ib db mb rb : Nat} {Y : XS} {f g : Fc} {a0 a1 a2 a3 a4 a5 k c : Int} {w : World} (h : Wv w0 fb gb ib db mb rb Y f g a0 a1 a2 a3 a4 a5 k c w) : Su w fb gb f g mb rb Y w := ⟨h.f, h.g, h.m, Kept.refl _ _⟩
theorem Wv.sl {w0 : World} {fb gb ib db mb rb : Nat} {Y : XS} {f g : Fc} {a0 a1 a2 a3 a4 a5 k c : Int} {w : World} (h : Wv w0 fb gb ib db mb rb Y f g a0 a1 a2 a3 a4 a5 k c w) : Sl w gb g mb rb Y w := ⟨h.g, h.m, Kept.refl _ _⟩
structure Kno (X Y : XS) (k : Int) (c : Nat) (f g : Fc) : Prop where
 kk : k = 0 \/ k = 1 \/ k = 2 \/ k = 3
 tr : k = 1 \/ k = 2 -> ∃ s, Trp Y f g k c s
 cn : ∀ op, (op = 61 \/ ∃ I, AtF X I /\ op = I.op) -> Cnt f g k op
 sn : ∀ I, AtF X I -> k = 1 -> Sns f I.op c
 ru : ∀ I, AtF X I -> k = 0 -> I.op ≠ 0 /\ I.op ≠ 40 /\ I.op ≠ 41 /\ (I.op = 67 \/ I.op = 68 -> Ret Y f g I.op) /\ (¬ (I.op = 67 \/ I.op = 68) -> g.mode = f.mode)
 ra : k = 2 \/ k = 3 -> f.ram = g.ram
theorem kno_of {X : XS} (hX : XInv X) {f g : Fc} (fx : FcX X f) (gx : FcX (stepX X).2 g) (c : Nat) (hc : (stepX X).1.2 = c) : Kno X (stepX X).2 (stepX X).1.1 c f g := by
 refine ⟨?_, fun h => ?_, fun op ho => cnt_of hX fx gx op ho, fun I ha h => sns_of hX fx ha c (Prod.ext h hc), fun I ha h => run_of hX fx gx ha h, fun h => ram_of hX fx gx h⟩
 . rcases step_is hX with ⟨e, _⟩ | ⟨_, _, e, _⟩ | ⟨_, _, e, _⟩ | ⟨_, _, _, _, e, _⟩ <;> rw [e] <;> dsimp only <;> omega
 . obtain ⟨c', s, e, t⟩ := trp_of hX fx gx h
   have : c' = c := by rw [hc] at e; omega
   rw [this] at t
   exact ⟨s, t⟩
set_option maxRecDepth 100000 in
theorem k_watchedT (mb rb z : Nat) (w : World) (hw : Hid (Mz w mb rb z)) : Calls prog 30 #[.pointer (some ⟨mb, 0, none⟩)] w fun o w' => TPost w mb rb z o w' := by
 have zl := hw.out.le
 have ml := hw.out.m.lt
 obtain ⟨X, hx, hI, hzz⟩ := hw.out
 obtain ⟨c, hc, hch⟩ := cho_of hI
 have KN := hide1 (fun f g (fx : FcX X f) (gx : FcX (stepX X).2 g) => kno_of hI fx gx c hc)
 have WL := hide1 (fun fb gb f g (fx : FcX X f) (gx : FcX (stepX X).2 g) (okf : FcOk f z) (okg : FcOk g z) W hf hg => k_walledT fb gb z X hI hzz f g fx gx zl okf okg W hf hg)
 have ST := hide1 (fun W (hW : Hid (XAt W mb rb X)) => x_Step mb rb X hI W hW)
 have YI := hide1 (step_inv hI)
 have YZ : Hid ((stepX X).2.b.ram.length = z) := hide1 (by rw [step_len]; exact hzz)
 obtain ⟨k, hk⟩ := zn2 ((stepX X).1.1)
 obtain ⟨Y, hY⟩ := zn2 ((stepX X).2)
 rw [hk, hc, hY] at ST
 rw [hk] at hch
 rw [hk, hY] at KN
 rw [hY] at WL YI YZ
 have TP : Hid (∀ w', XAt w' mb rb Y -> Kept [mb, rb] w w' -> TPost w mb rb z (.returned (.bool true)) w') := hide1 (fun w' h1 h2 => ⟨rfl, ⟨Y, h1, YI.out, YZ.out⟩, h2⟩)
 have CH := hide1 hch
 have XI := hide1 hI
 have XZ := hide1 hzz
 have HX := hide1 hx
 clear hw hx hI hzz hc hch hk hY
 go_enter func30, ntmps30
 go_wp2_with fail
 refine (k_lookV mb rb X XI.out w HX).mono ?_
 rintro o w1 ⟨⟨f, fx, rfl, hf⟩, hk1⟩
 obtain ⟨fb, hfb⟩ := zn1 (w.heap.size)
 rw [<- hfb] at hf |-
 have s1 : Hid (Sl w fb f mb rb X w1) := hide1 ⟨hf, HX.out.kept hk1, hk1⟩
 have NF : Hid (¬ fb ∈ [mb, rb]) := hide1 (by simp; omega)
 have FX := hide1 fx
 have OKF := hide1 (fx.ok XI.out XZ.out)
 have LO := hide1 (loo_of XI.out fx)
 clear hf hk1 HX hfb fx
 go_wp2_with fail
 refine (k_legal mb rb fb X XI.out f FX.out w1 (hide1 ⟨s1.out.1, s1.out.2.1, Kept.refl _ _⟩)).mono ?_
 rintro o w2 ⟨rfl, hk⟩
 have s2 := hide1 (s1.out.kept hk)
 clear hk s1
 go_wp2_with fail
 refine (k_at fb X XI.out f FX.out w2 (hide1 s2.out.1)).mono ?_
 rintro o w3 ⟨⟨⟨a0, a1, a2, a3, a4, a5⟩, rfl, hat⟩, hk⟩
 have AT : Hid (a5 ≠ 0 -> AtF X ⟨a0, a1, a2, a3, a4, a5⟩) := hide1 hat
 clear hat
 unfold insV
 dsimp only
 obtain ⟨ib, hib⟩ := zn1 (w3.heap.size)
 have bi := hide1 (BoxF.new w3 [.int .i64 a0, .int .i64 a1, .int .i64 a2, .int .i64 a3, .int .i64 a4, .int .i64 a5] 60)
 have s3 := hide1 (s2.out.kept (hk.alloc (.cells #[.int .i64 a0, .int .i64 a1, .int .i64 a2, .int .i64 a3, .int .i64 a4, .int .i64 a5] 60)))
 have hi3 : w.heap.size <= ib := by rw [hib]; exact (s2.out.2.2.trans hk).size
 clear hk s2
 go_wp2_with fail
 rw [<- hib] at bi |-
 obtain ⟨W3, hW3⟩ := zn1 (w3.alloc (.cells #[.int .i64 a0, .int .i64 a1, .int .i64 a2, .int .i64 a3, .int .i64 a4, .int .i64 a5] 60))
 simp only [List.toArray] at bi
 rw [<- hW3] at bi s3 |-
 clear hW3 hib
 refine (ST.out W3 (hide1 s3.out.2.1)).mono ?_
 rintro o w4 ⟨rfl, hm, hk⟩
 have n1 := NF.out
 have n2 : ¬ ib ∈ [mb, rb] := by simp; omega
 have q4 : Hid (BoxF w4 fb f.l /\ BoxF w4 ib [.int .i64 a0, .int .i64 a1, .int .i64 a2, .int .i64 a3, .int .i64 a4, .int .i64 a5] /\ XAt w4 mb rb Y /\ Kept [mb, rb] w w4) := hide1 ⟨s3.out.1.more hk n1, bi.out.more hk n2, hm, (s3.out.2.2.mono (by simp)).trans hk⟩
 clear hk hm s3 bi n1 n2 ST NF
 unfold didV
 obtain ⟨db, hdb⟩ := zn1 (w4.heap.size)
 have ka : Kept [] w4 (w4.alloc (.cells #[.int .i64 k, .int .i64 (c : Int)] 45)) := zq136
 have q5 : Hid (BoxF (w4.alloc (.cells #[.int .i64 k, .int .i64 (c : Int)] 45)) fb f.l /\ BoxF (w4.alloc (.cells #[.int .i64 k, .int .i64 (c : Int)] 45)) ib [.int .i64 a0, .int .i64 a1, .int .i64 a2, .int .i64 a3, .int .i64 a4, .int .i64 a5] /\ BoxF (w4.alloc (.cells #[.int .i64 k, .int .i64 (c : Int)] 45)) db [.int .i64 k, .int .i64 (c : Int)] /\ XAt (w4.alloc (.cells #[.int .i64 k, .int .i64 (c : Int)] 45)) mb rb Y /\ Kept [mb, rb] w (w4.alloc (.cells #[.int .i64 k, .int .i64 (c : Int)] 45))) := hide1 ⟨q4.out.1.kept ka, q4.out.2.1.kept ka, by rw [hdb]; exact BoxF.new w4 [.int .i64 k, .int .i64 (c : Int)] _, q4.out.2.2.1.kept ka, q4.out.2.2.2.trans (ka.mono (by simp))⟩
 clear q4 ka
 go_wp2_with fail
 rw [<- hdb]
 obtain ⟨W4, hW4⟩ := zn1 (w4.alloc (.cells #[.int .i64 k, .int .i64 (c : Int)] 45))
 rw [<- hW4] at q5 |-
 clear hW4 hdb
 refine (k_lookV mb rb Y YI.out W4 (hide1 q5.out.2.2.2.1)).mono ?_
 rintro o w5 ⟨⟨g, gx, rfl, hg⟩, hk⟩
 obtain ⟨gb, hgb⟩ := zn1 (W4.heap.size)
 rw [<- hgb] at hg |-
 have s5 : Hid (Wv w fb gb ib db mb rb Y f g a0 a1 a2 a3 a4 a5 k c w5) := hide1 ⟨q5.out.1.kept hk, hg, q5.out.2.1.kept hk, q5.out.2.2.1.kept hk, q5.out.2.2.2.1.kept hk, q5.out.2.2.2.2.trans (hk.mono (by simp))⟩
 have OKG := hide1 (gx.ok YI.out YZ.out)
 have KK := hide1 (KN.out f g FX.out gx)
 have WA := hide1 (fun W hf hg => WL.out fb gb f g FX.out gx OKF.out OKG.out W hf hg)
 have GX := hide1 gx
 clear hk q5 hg hgb hi3 ml gx KN WL
 go_wp2_with fail
 refine (k_legal mb rb gb Y YI.out g GX.out _ (hide1 s5.out.sl)).mono ?_
 rintro o w6 ⟨rfl, hk⟩
 have s := hide1 (s5.out.kept hk)
 clear hk s5
 have i0 := s.out.i.cell 0 _ rfl
 have i1 := s.out.i.cell 1 _ rfl
 have i2 := s.out.i.cell 2 _ rfl
 have i3 := s.out.i.cell 3 _ rfl
 have i4 := s.out.i.cell 4 _ rfl
 have i5 := s.out.i.cell 5 _ rfl
 have il := s.out.i.lt
 have d0 := s.out.d.cell 0 _ rfl
 have d1 := s.out.d.cell 1 _ rfl
 have dl := s.out.d.lt
 go_wp2_with fail
 refine (k_chosenT X k c CH fb f LO _ (hide1 s.out.f)).mono ?_
 rintro o w7 ⟨rfl, hk⟩
 clear i0 i1 i2 i3 i4 i5 il d0 d1 dl
 replace s := hide1 (s.out.kept hk)
 clear hk
 have i0 := s.out.i.cell 0 _ rfl
 have i1 := s.out.i.cell 1 _ rfl
 have i2 := s.out.i.cell 2 _ rfl
 have i3 := s.out.i.cell 3 _ rfl
 have i4 := s.out.i.cell 4 _ rfl
 have i5 := s.out.i.cell 5 _ rfl
 have il := s.out.i.lt
 have d0 := s.out.d.cell 0 _ rfl
 have d1 := s.out.d.cell 1 _ rfl
 have dl := s.out.d.lt
 go_upto_if 36 with fail
 go_cut [8] (fun q wx => (∃ x : Int, q = .int .i64 x /\ Hid (x = 61 \/ ∃ I, AtF X I /\ x = I.op)) /\ Hid (Wv w fb gb ib db mb rb Y f g a0 a1 a2 a3 a4 a5 k c wx))
 case first =>
  rcases beqC a5 0 with ⟨qz, qy⟩ | ⟨qz, qy⟩
  . as_aux_lemma =>
     go_wp2_with fail
     go_meet
     case rel => exact ⟨⟨_, rfl, hide1 (.inl rfl)⟩, s⟩
  . have A1 := hide1 (AT.out (by simpa using qz))
    as_aux_lemma =>
     go_wp2_with fail
     go_meet
     case rel => exact ⟨⟨_, rfl, hide1 (.inr ⟨_, A1.out, rfl⟩)⟩, s⟩
 case rest =>
 obtain ⟨⟨op, rfl, hop⟩, s8⟩ := hcut
 clear i0 i1 i2 i3 i4 i5 il d0 d1 dl
 clear s
 have s := s8
 clear s8
 have i0 := s.out.i.cell 0 _ rfl
 have i1 := s.out.i.cell 1 _ rfl
 have i2 := s.out.i.cell 2 _ rfl
 have i3 := s.out.i.cell 3 _ rfl
 have i4 := s.out.i.cell 4 _ rfl
 have i5 := s.out.i.cell 5 _ rfl
 have il := s.out.i.lt
 have d0 := s.out.d.cell 0 _ rfl
 have d1 := s.out.d.cell 1 _ rfl
 have dl := s.out.d.lt
 go_wp2_with fail
 refine (k_countedT gb g k _ op fb f z z OKF.out OKG.out (KK.out.cn op hop.out) _ (hide1 s.out.f) (hide1 s.out.g)).mono ?_
 rintro o w7 ⟨rfl, hk⟩
 clear i0 i1 i2 i3 i4 i5 il d0 d1 dl
 replace s := hide1 (s.out.kept hk)
 clear hk
 have i0 := s.out.i.cell 0 _ rfl
 have i1 := s.out.i.cell 1 _ rfl
 have i2 := s.out.i.cell 2 _ rfl
 have i3 := s.out.i.cell 3 _ rfl
 have i4 := s.out.i.cell 4 _ rfl
 have i5 := s.out.i.cell 5 _ rfl
 have il := s.out.i.lt
 have d0 := s.out.d.cell 0 _ rfl
 have d1 := s.out.d.cell 1 _ rfl
 have dl := s.out.d.lt
 clear hop
 have kk := KK.out.kk
 rcases kk with rfl | rfl | rfl | rfl
 . rcases beqC a5 0 with ⟨pz, py⟩ | ⟨pz, py⟩
   . exact zq440
   have RU := KK.out.ru _ (AT.out (by simpa using pz)) rfl
   have f0 := s.out.f.cell 0 _ rfl
   have g0 := s.out.g.cell 0 _ rfl
   have fl := s.out.f.lt
   have gl := s.out.g.lt
   have ⟨e0, e0x⟩ := beqF RU.1
   have ⟨e1, e1x⟩ := beqF RU.2.1
   have ⟨e2, e2x⟩ := beqF RU.2.2.1
   have RT := hide1 RU.2.2.2.1
   have RM := hide1 RU.2.2.2.2
   clear RU AT CH LO
   dsimp only at e0 e0x e1 e1x e2 e2x RT RM
   rcases beqC a0 67 with ⟨e67, e67x⟩ | ⟨e67, e67x⟩
   . have RR := hide1 (RT.out (by have := eq_of_beq e67; omega))
     have OP : Hid (a0 = 67 \/ a0 = 68) := hide1 (by have := eq_of_beq e67; omega)
     exact zq441
   rcases beqC a0 68 with ⟨e68, e68x⟩ | ⟨e68, e68x⟩
   . have RR := hide1 (RT.out (by have := eq_of_beq e68; omega))
     have OP : Hid (a0 = 67 \/ a0 = 68) := hide1 (by have := eq_of_beq e68; omega)
     exact zq441
   have ⟨m1, m2⟩ := beqT (RM.out (by simp at e67 e68; omega))
   go_upto_region 35 with fail
   go_cut [119] (fun q wx => q = .bool false /\ Hid (Wv w fb gb ib db mb rb Y f g a0 a1 a2 a3 a4 a5 0 c wx))
   case first =>
    exact zq392
   case rest =>
   obtain ⟨rfl, s1⟩ := hcut
   clear i0 i1 i2 i3 i4 i5 il d0 d1 dl
   clear s f0 g0 fl gl
   have s := s1
   clear s1
   exact zq439
 . obtain ⟨sb, hT⟩ := KK.out.tr (by omega)
   have TT := hide1 hT
   clear hT
   go_wp2_with fail
   refine (k_trappedT mb rb fb gb Y YI.out.ok f g 1 c sb TT.out _ (hide1 s.out.st)).mono ?_
   rintro o w7 ⟨rfl, hk⟩
   clear i0 i1 i2 i3 i4 i5 il d0 d1 dl
   replace s := hide1 (s.out.kept hk)
   clear hk TT
   have i0 := s.out.i.cell 0 _ rfl
   have i1 := s.out.i.cell 1 _ rfl
   have i2 := s.out.i.cell 2 _ rfl
   have i3 := s.out.i.cell 3 _ rfl
   have i4 := s.out.i.cell 4 _ rfl
   have i5 := s.out.i.cell 5 _ rfl
   have il := s.out.i.lt
   have d0 := s.out.d.cell 0 _ rfl
   have d1 := s.out.d.cell 1 _ rfl
   have dl := s.out.d.lt
   rcases beqC a5 0 with ⟨pz, py⟩ | ⟨pz, py⟩
   . exact zq440
   have SN := hide1 (KK.out.sn _ (AT.out (by simpa using pz)) rfl)
   clear AT CH LO
   go_wp2_with fail
   refine (k_sensibleT _ _ _ _ _ _ c fb f SN.out _ (hide1 s.out.f)).mono ?_
   rintro o w7 ⟨rfl, hk⟩
   clear i0 i1 i2 i3 i4 i5 il d0 d1 dl
   replace s := hide1 (s.out.kept hk)
   clear hk SN
   exact zq439
 . obtain ⟨sb, hT⟩ := KK.out.tr (by omega)
   have TT := hide1 hT
   clear hT
   go_wp2_with fail
   refine (k_trappedT mb rb fb gb Y YI.out.ok f g 2 c sb TT.out _ (hide1 s.out.st)).mono ?_
   rintro o w7 ⟨rfl, hk⟩
   clear i0 i1 i2 i3 i4 i5 il d0 d1 dl
   replace s := hide1 (s.out.kept hk)
   clear hk TT
   have i0 := s.out.i.cell 0 _ rfl
   have i1 := s.out.i.cell 1 _ rfl
   have i2 := s.out.i.cell 2 _ rfl
   have i3 := s.out.i.cell 3 _ rfl
   have i4 := s.out.i.cell 4 _ rfl
   have i5 := s.out.i.cell 5 _ rfl
   have il := s.out.i.lt
   have d0 := s.out.d.cell 0 _ rfl
   have d1 := s.out.d.cell 1 _ rfl
   have dl := s.out.d.lt
   exact zq442
 . exact zq442
theorem fields_did : (prog.fieldsOf 45).toList.map (fun f => (f.name, f.type, f.offset)) = [("Kind", 3, 0), ("Cause", 3, 1)] := by kernel_rfl
theorem und_did : prog.underlying 45 = some (.struct (prog.fieldsOf 45)) := by kernel_rfl
theorem stood_did : prog.stoodInHeld 45 = false := by kernel_rfl
theorem eqFields_did (d : Nat) (a0 a1 b0 b1 : Int) (fs : List Field) (h : fs.map (fun f => (f.name, f.type, f.offset)) = [("Kind", 3, 0), ("Cause", 3, 1)]) (w : World) :
 (Op.eqFields (d + 1) #[.int .i64 a0, .int .i64 a1] #[.int .i64 b0, .int .i64 b1] fs).run prog w = .ok (a0 == b0 && a1 == b1) w := by
 rcases fs with _ | ⟨f0, fs⟩
 . simp at h
 rcases fs with _ | ⟨f1, fs⟩
 . simp at h
 rcases fs with _ | ⟨f2, fs⟩
 . simp only [List.map_cons, List.map_nil, List.cons.injEq, Prod.mk.injEq, and_true] at h
   obtain ⟨⟨n0, t0, o0⟩, n1, t1, o1⟩ := h
   simp [Op.eqFields, n0, n1, t0, t1, o0, o1, go_sem, part]
   by_cases h0 : a0 = b0 <;> by_cases h1 : a1 = b1 <;> simp [h0, h1]
 . simp at h
theorem neq_did (a0 a1 b0 b1 : Int) (w : World) : (binOp .neq 45 (.agg #[.int .i64 a0, .int .i64 a1]) (.agg #[.int .i64 b0, .int .i64 b1])).run prog w = .ok (.bool (!(a0 == b0 && a1 == b1))) w := by
 rw [run_neq_struct, show (10000 : Nat) = 9998 + 1 + 1 from rfl, run_equalIn_agg w (9998 + 1) 45 _ _ und_did stood_did, eqFields_did 9998 _ _ _ _ _ fields_did]
 rfl
theorem conv_one (v : Int) (h0 : 0 <= v) (h1 : v < 256) (W : World) : (convert 64 9 (.slice (some ⟨W.heap.size, 0, none⟩) 1 1)).run prog (W.alloc (.cells #[.int .u8 v] 5)) = .ok (.string (oneB v)) (W.alloc (.cells #[.int .u8 v] 5)) := by
 have h := run_convert_bytes_back (P := prog) (W.alloc (.cells #[.int .u8 v] 5)) 64 9 5 ⟨W.heap.size, 0, none⟩ 1 [UInt8.ofNat v.toNat] Tryz.underlying64 Tryz.underlying5 Tryz.underlying9 (fun j hj => by
  obtain rfl : j = 0 := by simpa using hj
  have : ((UInt8.ofNat v.toNat).toNat : Int) = v := by rw [UInt8.toNat_ofNat']; omega
  simp [Addr.add, this]
  omega)
 exact h
theorem slice_lo (s : ByteArray) (b : Nat) (h2 : b <= s.size) (w : World) : (Instr.slice 9 (.string s) none (some (.int .i64 (b : Int))) none).run prog w = .ok (.string (s.extract 0 b)) w := by
 have h2' : (b : Int) <= (s.size : Int) := by omega
 go_simp
theorem slice_hi (s : ByteArray) (a : Nat) (h2 : a <= s.size) (w : World) : (Instr.slice 9 (.string s) (some (.int .i64 (a : Int))) none none).run prog w = .ok (.string (s.extract a s.size)) w := by
 have h2' : (a : Int) <= (s.size : Int) := by omega
 go_simp
structure Sx (w0 : World) (mb rb z yb vb : Nat) (w : World) : Prop where
 m : Mz w mb rb z
 y : Mz w yb (yb + 1) z
 v : Mz w vb (vb + 1) z
 n0 : w0.heap.size <= yb
 n1 : yb + 2 <= vb
 lm : mb < w0.heap.size /\ rb < w0.heap.size
 kp : Kept [] w0 w
theorem Sx.kept {w0 : World} {mb rb z yb vb : Nat} {w w' : World} (h : Sx w0 mb rb z yb vb w) (hk : Kept [] w w') : Sx w0 mb rb z yb vb w' :=
 ⟨h.m.kept hk, h.y.kept hk, h.v.kept hk, h.n0, h.n1, h.lm, h.kp.trans hk⟩
theorem Sx.actY {w0 : World} {mb rb z yb vb : Nat} {w w' : World} (h : Sx w0 mb rb z yb vb w) (hm : Mz w' yb (yb + 1) z) (hk : Kept [yb, yb + 1] w w') : Sx w0 mb rb z yb vb w' := by
 have a := h.n0; have b := h.n1; have c := h.lm
 exact ⟨h.m.more hk (by simp; omega) (by simp; omega), hm, h.v.more hk (by simp; omega) (by simp; omega), a, b, c, h.kp.fresh hk (by simp; omega)⟩
theorem Sx.actV {w0 : World} {mb rb z yb vb : Nat} {w w' : World} (h : Sx w0 mb rb z yb vb w) (hm : Mz w' vb (vb + 1) z) (hk : Kept [vb, vb + 1] w w') : Sx w0 mb rb z yb vb w' := by
 have a := h.n0; have b := h.n1; have c := h.lm
 exact ⟨h.m.more hk (by simp; omega) (by simp; omega), h.y.more hk (by simp; omega) (by simp; omega), hm, a, b, c, h.kp.fresh hk (by simp; omega)⟩
set_option maxRecDepth 100000 in
theorem k_secret (mb rb z : Nat) (at0 wi : Int) (h0 : -9223372036854775808 <= at0) (h1 : at0 <= 9223372036854775807) (w : World) (hw : Hid (Mz w mb rb z)) : Calls prog 32 #[.pointer (some ⟨mb, 0, none⟩), .int .i64 at0, .int .i64 wi] w fun o w' => MPost w mb rb z o w' := by
 have zl := hw.out.le
 have ml := hw.out.m.lt
 go_enter func32, ntmps32
 go_wp2_with fail
 refine (k_look mb rb z w hw).mono ?_
 rintro o w1 ⟨⟨f, okf, rfl, hf⟩, hk1⟩
 obtain ⟨fb, hfb⟩ := zn1 (w.heap.size)
 rw [<- hfb] at hf |-
 have m1 := hide1 (hw.out.kept hk1)
 have K1 := hide1 hk1
 have F1 := hide1 hf
 clear hf hk1 hw hfb
 go_wp2_with fail
 refine (k_paged fb f w1 F1).mono ?_
 rintro o wp ⟨rfl, hwp⟩
 rw [hwp]
 clear hwp wp
 obtain ⟨on, hon⟩ := zn2 ((!(f.mode == 3) && (f.satp / 2147483648 == 1)))
 rw [hon]
 clear hon
 have c13 := F1.out.cell 13 _ rfl
 have fl := F1.out.lt
 have zr := okf.ram
 obtain ⟨s, hs⟩ := zn1 (f.ram)
 rw [<- hs] at c13 zr
 clear hs
 cases on
 . exact zq444
 by_cases hz : z = 0
 . have hz' : ((s.size : Int) == 0) = true := by rw [zr, hz]; rfl
   exact zq444
 have hz' : ((s.size : Int) == 0) = false := by rw [zr]; simp; omega
 have PK := hide1 (k_pick at0 h0 h1 z (by omega) (by omega) w1)
 have TO := hide1 (k_tablesOf fb z f zl okf w1 F1)
 clear okf hz
 subst zr
 go_wp2_with fail
 refine PK.out.mono ?_
 rintro o wp ⟨⟨j, hj, rfl⟩, hwp⟩
 rw [hwp]
 clear hwp wp PK
 go_wp2_with fail
 refine TO.out.mono ?_
 rintro o w2 ⟨⟨tb, b0, b1, b2, b3, b4, rfl, ht, _⟩, hk⟩
 have m2 := hide1 (m1.out.kept hk)
 have K2 := hide1 (K1.out.trans hk)
 clear TO hk m1 K1 F1 c13 fl hz'
 have hd := ht.hdr
 have t0 := hd.cell 0 _ rfl
 have t1 := hd.cell 1 _ rfl
 have tl := hd.lt
 have jd : Int.tdiv (j : Int) 4096 = ((j / 4096 : Nat) : Int) := zq146
 obtain ⟨J, hJ⟩ := zn1 (j / 4096 : Nat)
 obtain ⟨n, hn⟩ := zn1 ((s.size + 4095) / 4096 : Nat)
 rw [<- hJ] at jd
 have hJn : J < (s.size + 4095) / 4096 := by omega
 obtain ⟨r0, e0⟩ := ht.s0.cell J hJn
 obtain ⟨r1, e1⟩ := ht.s1.cell J hJn
 rw [<- hn] at t0 t1 hJn
 have jw : IntKind.i64.wrap (J : Int) = J := zq115
 have jl : (0 : Int) <= (J : Int) /\ (J : Int) < (n : Int) := by omega
 clear ht hd hn hJ
 go_upto_region 7 with fail
 go_cut [60] (fun q wx => (∃ b : Bool, q = .bool b) /\ wx = w2)
 case first =>
  cases r0 <;> cases r1
  all_goals
   as_aux_lemma =>
    go_wp2_with fail
    go_meet
    case rel => exact ⟨⟨_, rfl⟩, rfl⟩
 case rest =>
 obtain ⟨⟨bs, rfl⟩, hwx⟩ := hcut
 rw [hwx]
 clear hwx t0 t1 tl e0 e1 jd jw jl hJn
 cases bs
 rotate_left
 . go_wp2_with fail
   go_ret
   exact ⟨⟨_, rfl⟩, m2.out, K2.out.mono (by simp)⟩
 go_wp2_with fail
 refine (m_Copy mb rb s.size w2 m2.out).mono ?_
 rintro o w3 ⟨rfl, hy, hk⟩
 obtain ⟨yb, hyb⟩ := zn1 (w2.heap.size)
 rw [<- hyb] at hy |-
 have y0 : w.heap.size <= yb := by rw [hyb]; exact K2.out.size
 have y1 : yb + 2 <= w3.heap.size := hy.m.lt.2
 have m3 := hide1 (m2.out.kept hk)
 have K3 := hide1 (K2.out.trans hk)
 have Y3 := hide1 hy
 clear hk hy hyb m2 K2
 go_wp2_with fail
 refine (m_Copy mb rb s.size w3 m3.out).mono ?_
 rintro o w4 ⟨rfl, hv, hk⟩
 obtain ⟨vb, hvb⟩ := zn1 (w3.heap.size)
 rw [<- hvb] at hv |-
 have s4 : Hid (Sx w mb rb s.size yb vb w4) := hide1 ⟨m3.out.kept hk, Y3.out.kept hk, hv, y0, by omega, ml, K3.out.trans hk⟩
 clear hk hv hvb m3 K3 Y3 y0 y1
 have cb1 := conv_one (wi % 256) (by omega) (by omega)
 have cb2 := conv_one (wi / 256 % 256) (by omega) (by omega) (w4.alloc (.cells #[.int .u8 (wi % 256)] 5))
 rw [show (w4.alloc (.cells #[.int .u8 (wi % 256)] 5)).heap.size = w4.heap.size + 1 by simp] at cb2
 obtain ⟨X1, hX1⟩ := zn2 (oneB (wi % 256))
 obtain ⟨X2, hX2⟩ := zn2 (oneB (wi / 256 % 256))
 rw [hX1] at cb1
 rw [hX2] at cb2
 clear hX1 hX2
 have s5 := hide1 (s4.out.kept (((Kept.refl [] w4).alloc (.cells #[.int .u8 (wi % 256)] 5)).alloc (.cells #[.int .u8 (wi / 256 % 256)] 5)))
 clear s4
 go_wp2_with fail
 obtain ⟨W5, hW5⟩ := zn1 ((w4.alloc (.cells #[.int .u8 (wi % 256)] 5)).alloc (.cells #[.int .u8 (wi / 256 % 256)] 5))
 rw [<- hW5] at s5 |-
 clear hW5 cb1 cb2
 refine (m_Load yb (yb + 1) s.size _ _ _ s5.out.y).mono ?_
 rintro o w6 ⟨⟨el, rfl⟩, hm, hk⟩
 have s6 := hide1 (s5.out.actY hm hk)
 clear hm hk s5
 go_wp2_with fail
 refine (m_Load vb (vb + 1) s.size _ _ _ s6.out.v).mono ?_
 rintro o w7 ⟨⟨em, rfl⟩, hm, hk⟩
 have s7 := hide1 (s6.out.actV hm hk)
 clear hm hk s6
 go_wp2_with fail
 refine (m_Step yb (yb + 1) s.size _ s7.out.y).mono ?_
 rintro o w8 ⟨⟨k, c, k0, k1, c0, c1, rfl⟩, hm, hk⟩
 have s8 := hide1 (s7.out.actY hm hk)
 clear hm hk s7 k0 k1 c0 c1
 have s9 := hide1 (s8.out.kept ((Kept.refl [] w8).alloc (.cells #[.int .i64 k, .int .i64 c] 45)))
 have B9 := hide1 (BoxF.new w8 [.int .i64 k, .int .i64 c] 45)
 obtain ⟨pb, hpb⟩ := zn1 (w8.heap.size)
 have lv := s8.out.v.m.lt
 have ly := s8.out.y.m.lt
 rw [<- hpb] at B9 lv ly
 clear s8
 go_wp2_with fail
 rw [<- hpb]
 simp only [List.toArray] at B9
 obtain ⟨W9, hW9⟩ := zn1 (w8.alloc (.cells #[.int .i64 k, .int .i64 c] 45))
 rw [<- hW9] at s9 B9 |-
 clear hW9 hpb
 refine (m_Step vb (vb + 1) s.size _ s9.out.v).mono ?_
 rintro o w10 ⟨⟨k', c', k0, k1, c0, c1, rfl⟩, hm, hk⟩
 have s10 := hide1 (s9.out.actV hm hk)
 have B10 := hide1 (B9.out.more hk (by simp; omega))
 clear hm hk s9 B9 k0 k1 c0 c1 lv ly
 obtain ⟨qb, hqb⟩ := zn1 (w10.heap.size)
 have ka := (Kept.refl [] w10).alloc (.cells #[.int .i64 k', .int .i64 c'] 45)
 have s11 := hide1 (s10.out.kept ka)
 have B11 := hide1 (B10.out.kept ka)
 have D11 := hide1 (BoxF.new w10 [.int .i64 k', .int .i64 c'] 45)
 rw [<- hqb] at D11
 clear ka s10 B10
 go_wp2_with fail
 rw [<- hqb]
 simp only [List.toArray] at D11
 obtain ⟨W11, hW11⟩ := zn1 (w10.alloc (.cells #[.int .i64 k', .int .i64 c'] 45))
 rw [<- hW11] at s11 B11 D11 |-
 clear hW11 hqb
 refine (m_Show yb (yb + 1) _ s11.out.y.m).mono ?_
 rintro o w12 ⟨⟨S1, sa, sb, rfl⟩, hk⟩
 have s12 := hide1 (s11.out.kept hk)
 have B12 := hide1 (B11.out.kept hk)
 have D12 := hide1 (D11.out.kept hk)
 clear hk s11 B11 D11 sa sb
 go_wp2_with fail
 refine (m_Show vb (vb + 1) _ s12.out.v.m).mono ?_
 rintro o w13 ⟨⟨S2, sa, sb, rfl⟩, hk⟩
 have s13 := hide1 (s12.out.kept hk)
 have B13 := hide1 (B12.out.kept hk)
 have D13 := hide1 (D12.out.kept hk)
 clear hk s12 B12 D12 sa sb
 have p0 := B13.out.cell 0 _ rfl
 have p1 := B13.out.cell 1 _ rfl
 have q0 := D13.out.cell 0 _ rfl
 have q1 := D13.out.cell 1 _ rfl
 have ne := fun W => neq_did k c k' c' W
 obtain ⟨bd, hbd⟩ := zn2 ((!(k == k' && c == c')) : Bool)
 simp only [hbd] at ne
 clear hbd
 go_upto_region 19 with fail
 go_cut [97] (fun q wx => (∃ b : Bool, q = .bool b) /\ Hid (Sx w mb rb s.size yb vb wx))
 case first =>
  cases bd
  all_goals
   as_aux_lemma =>
    go_wp2_with fail
    all_goals
     go_meet
     case rel => exact ⟨⟨_, rfl⟩, s13⟩
 case rest =>
 obtain ⟨⟨bs, rfl⟩, s14⟩ := hcut
 clear s13 B13 D13 p0 p1 q0 q1 ne
 cases bs
 rotate_left
 . go_wp2_with fail
   go_ret
   exact ⟨⟨_, rfl⟩, s14.out.m, s14.out.kp.mono (by simp)⟩
 go_wp2_with fail
 refine (k_ram yb (yb + 1) s.size _ (hide1 s14.out.y)).mono ?_
 rintro o wp ⟨⟨Q, hq, rfl⟩, hwp⟩
 rw [hwp]
 clear hwp wp
 go_wp2_with fail
 refine (k_ram vb (vb + 1) s.size _ (hide1 s14.out.v)).mono ?_
 rintro o wp ⟨⟨R, hr, rfl⟩, hwp⟩
 rw [hwp]
 clear hwp wp
 go_upto_region 23 with fail
 have jj : (j : Int) + 1 = ((j + 1 : Nat) : Int) := by omega
 have wj : IntKind.i64.wrap ((j : Int) + 1) = ((j + 1 : Nat) : Int) := by rw [wrap_in _ (by omega)]; omega
 have a1 := slice_lo Q j (by omega)
 have a2 := slice_lo R j (by omega)
 have a3 := slice_mid Q j (j + 1) (by omega) (by omega)
 have a4 := slice_mid R j (j + 1) (by omega) (by omega)
 have a5 := slice_hi Q (j + 1) (by omega)
 have a6 := slice_hi R (j + 1) (by omega)
 obtain ⟨Z1, z1⟩ := zn2 (Q.extract 0 j)
 obtain ⟨Z2, z2⟩ := zn2 (R.extract 0 j)
 obtain ⟨Z3, z3⟩ := zn2 (Q.extract j (j + 1))
 obtain ⟨Z4, z4⟩ := zn2 (R.extract j (j + 1))
 obtain ⟨Z5, z5⟩ := zn2 (Q.extract (j + 1) Q.size)
 obtain ⟨Z6, z6⟩ := zn2 (R.extract (j + 1) R.size)
 rw [z1] at a1
 rw [z2] at a2
 rw [z3] at a3
 rw [z4] at a4
 rw [z5] at a5
 rw [z6] at a6
 obtain ⟨L, hL⟩ := zn1 (j + 1 : Nat)
 rw [<- hL] at wj a3 a4 a5 a6
 clear z1 z2 z3 z4 z5 z6 hL hq hr jj hj
 cases e1 : (Z1.toList == Z2.toList)
 . exact zq443
 cases e2 : (Z3.toList == X1.toList)
 . exact zq443
 cases e3 : (Z4.toList == X2.toList)
 . exact zq443
 exact zq443
def APost (k : Int) (w : World) (mb rb z : Nat) (o : Ending) (w' : World) : Prop := KR k o /\ Mz w' mb rb z /\ Kept [mb, rb] w w'
theorem APost.t {k : Int} {w : World} {mb rb z : Nat} {o : Ending} {w' : World} (h : TPost w mb rb z o w') : APost k w mb rb z o w' := ⟨⟨true, h.1, hide1 (fun _ => rfl)⟩, h.2⟩
theorem APost.m {k : Int} {w : World} {mb rb z : Nat} {o : Ending} {w' : World} (h : MPost w mb rb z o w') (hk : ¬ (k = 1 \/ k = 9 \/ k = 3)) : APost k w mb rb z o w' := by
 obtain ⟨⟨r, e⟩, h2⟩ := h
 exact ⟨⟨r, e, hide1 (fun q => absurd q hk)⟩, h2⟩
set_option maxRecDepth 100000 in
theorem k_plainNT (mb rb z : Nat) (k a b c : Int) (s : ByteArray) (hk : ¬ (k = 2 \/ (4 <= k /\ k <= 8) \/ k = 10 \/ k = 22)) (w : World) (hw : Hid (Mz w mb rb z)) : Calls prog 33 #[.pointer (some ⟨mb, 0, none⟩), .agg #[.int .i64 k, .int .i64 a, .int .i64 b, .int .i64 c, .string s]] w fun o w' => TPost w mb rb z o w' := by
 have k0 : Kept [] w (w.alloc (.cells #[.int .i64 k, .int .i64 a, .int .i64 b, .int .i64 c, .string s] 36)) := zq136
 have M0 := hide1 (hw.out.kept k0)
 have K0 : Hid (Kept [mb, rb] w (w.alloc (.cells #[.int .i64 k, .int .i64 a, .int .i64 b, .int .i64 c, .string s] 36))) := zq138
 have q2 : (k == 2) = false := by simp; omega
 have q4 : (k == 4) = false := by simp; omega
 have q5 : (k == 5) = false := by simp; omega
 have q6 : (k == 6) = false := by simp; omega
 have q7 : (k == 7) = false := by simp; omega
 have q8 : (k == 8) = false := by simp; omega
 have q10 : (k == 10) = false := by simp; omega
 have q22 : (k == 22) = false := by simp; omega
 clear k0 hw hk
 go_enter func33, ntmps33
 go_wp2_with fail
 go_ret
 exact ⟨rfl, M0.out, K0.out⟩
theorem k_plainA (mb rb z : Nat) (k a b c : Int) (s : ByteArray) (w : World) (hw : Hid (Mz w mb rb z)) : Calls prog 33 #[.pointer (some ⟨mb, 0, none⟩), .agg #[.int .i64 k, .int .i64 a, .int .i64 b, .int .i64 c, .string s]] w fun o w' => APost k w mb rb z o w' := by
 by_cases h : k = 2 \/ (4 <= k /\ k <= 8) \/ k = 10 \/ k = 22
 . exact (k_plain mb rb z k a b c s w hw).mono (fun o w' h' => APost.m h' (by omega))
 . exact (k_plainNT mb rb z k a b c s h w hw).mono (fun o w' h => APost.t h)
set_option maxRecDepth 100000 in
theorem k_stepW (wb n : Nat) (k a b c : Int) (s : ByteArray) (hx : LOk ⟨k, a, b, c, s⟩) (hk1 : ¬ k = 1) (hk : k = 3) (P : List Kp1) (g cap : Nat) (hP0 : 0 < P.length) (hPn : P.length <= n) (hP : P.length <= 1073741824) (w : World) (ht : Hid (Tb w)) (hL : Hid (Kw w wb P (.slice (some ⟨g, 0, none⟩) P.length cap))) :
 Calls prog 17 #[.pointer (some ⟨wb, 0, none⟩), .agg #[.int .i64 k, .int .i64 a, .int .i64 b, .int .i64 c, .string s]] w fun e w' => KPost wb n k w e w' := by
 have k0 : Kept [] w (w.alloc (.cells #[.int .i64 k, .int .i64 a, .int .i64 b, .int .i64 c, .string s] 36)) := zq136
 have LA := hide1 (k_lab ⟨k, a, b, c, s⟩ hx _ (hide1 (ht.out.more ((Below.refl _ _).alloc (Nat.le_refl _) (.cells #[.int .i64 k, .int .i64 a, .int .i64 b, .int .i64 c, .string s] 36)))))
 unfold LOp.v at LA
 simp only at LA
 have ha0 : -9223372036854775808 <= a := hx.a0
 have ha1 : a <= 9223372036854775807 := hx.a1
 have hb0 : -9223372036854775808 <= b := hx.b0
 have hb1 : b <= 9223372036854775807 := hx.b1
 have AC := fun (p : Kp1) (W : World) (hW : Mz W p.mb p.rb p.z) => hide1 ((k_watchedT p.mb p.rb p.z W (hide1 hW)).mono (fun o w' h => (APost.t h : APost k W p.mb p.rb p.z o w')))
 have q9 : (k == 9) = false := by simp; omega
 have q3 : (k == 3) = true := by simp [hk]
 exact zq445
set_option maxRecDepth 100000 in
theorem k_stepT (wb n : Nat) (k a b c : Int) (s : ByteArray) (hx : LOk ⟨k, a, b, c, s⟩) (hk1 : ¬ k = 1) (hk : k = 31) (P : List Kp1) (g cap : Nat) (hP0 : 0 < P.length) (hPn : P.length <= n) (hP : P.length <= 1073741824) (w : World) (ht : Hid (Tb w)) (hL : Hid (Kw w wb P (.slice (some ⟨g, 0, none⟩) P.length cap))) :
 Calls prog 17 #[.pointer (some ⟨wb, 0, none⟩), .agg #[.int .i64 k, .int .i64 a, .int .i64 b, .int .i64 c, .string s]] w fun e w' => KPost wb n k w e w' := by
 have k0 : Kept [] w (w.alloc (.cells #[.int .i64 k, .int .i64 a, .int .i64 b, .int .i64 c, .string s] 36)) := zq136
 have LA := hide1 (k_lab ⟨k, a, b, c, s⟩ hx _ (hide1 (ht.out.more ((Below.refl _ _).alloc (Nat.le_refl _) (.cells #[.int .i64 k, .int .i64 a, .int .i64 b, .int .i64 c, .string s] 36)))))
 unfold LOp.v at LA
 simp only at LA
 have ha0 : -9223372036854775808 <= a := hx.a0
 have ha1 : a <= 9223372036854775807 := hx.a1
 have hb0 : -9223372036854775808 <= b := hx.b0
 have hb1 : b <= 9223372036854775807 := hx.b1
 have AC := fun (p : Kp1) (W : World) (hW : Mz W p.mb p.rb p.z) => hide1 ((k_twin p.mb p.rb p.z b W (hide1 hW)).mono (fun o w' h => (APost.m h (by omega) : APost k W p.mb p.rb p.z o w')))
 have q9 : (k == 9) = false := by simp; omega
 have q3 : (k == 3) = false := by simp; omega
 have q31 : (k == 31) = true := by simp [hk]
 exact zq446
set_option maxRecDepth 100000 in
theorem k_stepS (wb n : Nat) (k a b c : Int) (s : ByteArray) (hx : LOk ⟨k, a, b, c, s⟩) (hk1 : ¬ k = 1) (hk : k = 32) (P : List Kp1) (g cap : Nat) (hP0 : 0 < P.length) (hPn : P.length <= n) (hP : P.length <= 1073741824) (w : World) (ht : Hid (Tb w)) (hL : Hid (Kw w wb P (.slice (some ⟨g, 0, none⟩) P.length cap))) :
 Calls prog 17 #[.pointer (some ⟨wb, 0, none⟩), .agg #[.int .i64 k, .int .i64 a, .int .i64 b, .int .i64 c, .string s]] w fun e w' => KPost wb n k w e w' := by
 have k0 : Kept [] w (w.alloc (.cells #[.int .i64 k, .int .i64 a, .int .i64 b, .int .i64 c, .string s] 36)) := zq136
 have LA := hide1 (k_lab ⟨k, a, b, c, s⟩ hx _ (hide1 (ht.out.more ((Below.refl _ _).alloc (Nat.le_refl _) (.cells #[.int .i64 k, .int .i64 a, .int .i64 b, .int .i64 c, .string s] 36)))))
 unfold LOp.v at LA
 simp only at LA
 have ha0 : -9223372036854775808 <= a := hx.a0
 have ha1 : a <= 9223372036854775807 := hx.a1
 have hb0 : -9223372036854775808 <= b := hx.b0
 have hb1 : b <= 9223372036854775807 := hx.b1
 have AC := fun (p : Kp1) (W : World) (hW : Mz W p.mb p.rb p.z) => hide1 ((k_secret p.mb p.rb p.z b c hb0 hb1 W (hide1 hW)).mono (fun o w' h => (APost.m h (by omega) : APost k W p.mb p.rb p.z o w')))
 have q9 : (k == 9) = false := by simp; omega
 have q3 : (k == 3) = false := by simp; omega
 have q31 : (k == 31) = false := by simp; omega
 have q32 : (k == 32) = true := by simp [hk]
 exact zq447
set_option maxRecDepth 100000 in
theorem k_stepP (wb n : Nat) (k a b c : Int) (s : ByteArray) (hx : LOk ⟨k, a, b, c, s⟩) (hk1 : ¬ k = 1) (hk : ¬ (k = 9 \/ k = 3 \/ k = 31 \/ k = 32)) (P : List Kp1) (g cap : Nat) (hP0 : 0 < P.length) (hPn : P.length <= n) (hP : P.length <= 1073741824) (w : World) (ht : Hid (Tb w)) (hL : Hid (Kw w wb P (.slice (some ⟨g, 0, none⟩) P.length cap))) :
 Calls prog 17 #[.pointer (some ⟨wb, 0, none⟩), .agg #[.int .i64 k, .int .i64 a, .int .i64 b, .int .i64 c, .string s]] w fun e w' => KPost wb n k w e w' := by
 have k0 : Kept [] w (w.alloc (.cells #[.int .i64 k, .int .i64 a, .int .i64 b, .int .i64 c, .string s] 36)) := zq136
 have LA := hide1 (k_lab ⟨k, a, b, c, s⟩ hx _ (hide1 (ht.out.more ((Below.refl _ _).alloc (Nat.le_refl _) (.cells #[.int .i64 k, .int .i64 a, .int .i64 b, .int .i64 c, .string s] 36)))))
 unfold LOp.v at LA
 simp only at LA
 have ha0 : -9223372036854775808 <= a := hx.a0
 have ha1 : a <= 9223372036854775807 := hx.a1
 have hb0 : -9223372036854775808 <= b := hx.b0
 have hb1 : b <= 9223372036854775807 := hx.b1
 have AC := fun (p : Kp1) (W : World) (hW : Mz W p.mb p.rb p.z) => hide1 (k_plainA p.mb p.rb p.z k a b c s W (hide1 hW))
 have q9 : (k == 9) = false := by simp; omega
 have q3 : (k == 3) = false := by simp; omega
 exact zq445
set_option maxRecDepth 100000 in
theorem k_plain9 (mb : Nat) (k a b c : Int) (s : ByteArray) (hk : k = 9) (w : World) : CK 33 #[.pointer (some ⟨mb, 0, none⟩), .agg #[.int .i64 k, .int .i64 a, .int .i64 b, .int .i64 c, .string s]] (.bool true) w := by
 subst hk
 go_enter func33, ntmps33
 exact zq245
set_option maxRecDepth 100000 in
theorem k_stepC (wb n : Nat) (k a b c : Int) (s : ByteArray) (hx : LOk ⟨k, a, b, c, s⟩) (hk1 : ¬ k = 1) (hk : k = 9) (P : List Kp1) (g cap : Nat) (hP0 : 0 < P.length) (hPn : P.length <= n) (hP : P.length <= 1073741824) (w : World) (ht : Hid (Tb w)) (hL : Hid (Kw w wb P (.slice (some ⟨g, 0, none⟩) P.length cap))) :
 Calls prog 17 #[.pointer (some ⟨wb, 0, none⟩), .agg #[.int .i64 k, .int .i64 a, .int .i64 b, .int .i64 c, .string s]] w fun e w' => KPost wb n k w e w' := by
 have k0 : Kept [] w (w.alloc (.cells #[.int .i64 k, .int .i64 a, .int .i64 b, .int .i64 c, .string s] 36)) := zq136
 have LA := hide1 (k_lab ⟨k, a, b, c, s⟩ hx _ (hide1 (ht.out.more ((Below.refl _ _).alloc (Nat.le_refl _) (.cells #[.int .i64 k, .int .i64 a, .int .i64 b, .int .i64 c, .string s] 36)))))
 unfold LOp.v at LA
 simp only at LA
 have ha0 : -9223372036854775808 <= a := hx.a0
 have ha1 : a <= 9223372036854775807 := hx.a1
 have hb0 : -9223372036854775808 <= b := hx.b0
 have hb1 : b <= 9223372036854775807 := hx.b1
 have AC := fun (p : Kp1) (W : World) (hW : Mz W p.mb p.rb p.z) => hide1 (k_plain9 p.mb k a b c s hk W)
 have q9 : (k == 9) = true := by simp [hk]
 have q3 : (k == 3) = false := by simp; omega
 have q31 : (k == 31) = false := by simp; omega
 have q32 : (k == 32) = false := by simp; omega
 clear hk
 have q1 : (k == 1) = false := by simp [hk1]
 have qP : ((P.length : Int) == 0) = false := zq147
 have L0 := hide1 (hL.out.keep k0)
 have OB0 := hide1 (BoxF.new w [.int .i64 k, .int .i64 a, .int .i64 b, .int .i64 c, .string s] 36)
 have hl := hL.out.lt
 have hl' : ¬ wb = w.heap.size := by omega
 have lP : Hid (∀ i (h : i < P.length), P[i].mb < w.heap.size /\ P[i].rb < w.heap.size) := zq148
 obtain ⟨j, hj, pk⟩ := k_pickE a ha0 ha1 P.length hP0 (by omega)
 have PK := fun W => hide1 (pk W)
 have K0 := hide1 k0
 clear k0 ha0 ha1 hb0 hb1 hx ht pk
 go_enter func17, ntmps17
 go_wp2_with fail
 refine LA.out.mono ?_
 rintro o w1 ⟨⟨r, rfl, hr⟩, hk⟩
 have L1 := hide1 (L0.out.keep hk)
 have OB1 := hide1 (OB0.out.kept hk)
 have K1 := hide1 (K0.out.trans hk)
 have sl := hk.size
 clear LA hk L0 OB0 K0
 cases r
 . exact zq448
 clear hr
 have d0 := L1.out.c0
 have e0 := (L1.out.keep (Kept.refl [] w1).drew).c0
 have o1 := (OB1.out.drew).cell 1 _ rfl
 have e1 : w1.drew.cell? ⟨g, j, none⟩ = some (.pointer (some ⟨P[j].mb, 0, none⟩)) := by
  rw [(L1.out.keep (Kept.refl [] w1).drew).ox.cellAt j (by omega)]
  simp [ptrs, hj]
 have hjj : (0 : Int) <= (j : Int) /\ (j : Int) < (P.length : Int) := by omega
 obtain ⟨p, hp⟩ := zn1 (P[j])
 rw [<- hp] at e1
 have HP := hide1 hp
 clear hp
 go_upto_region 11 with fail
 go_region_held3 (fun w' => w'.cell? ⟨w.heap.size, 1, none⟩ = some (.int .i64 a) /\ w'.cell? ⟨wb, 0, none⟩ = some (.slice (some ⟨g, 0, none⟩) P.length cap) /\ w'.cell? ⟨g, j, none⟩ = some (.pointer (some ⟨p.mb, 0, none⟩))) (first | exact ⟨o1, e0, e1⟩ | go_keep) (first | (go_at_call 28; refine (PK _).out.mono ?_; rintro e w2 ⟨rfl, rfl⟩))
 all_goals
  obtain ⟨W0, hW0⟩ := zn1 (w1.drew)
  have L2 := hide1 (L1.out.keep (Kept.refl [] w1).drew)
  have K2 := hide1 (K1.out.drew)
  have OB2 := hide1 (OB1.out.drew)
  rw [<- hW0] at L2 K2 OB2 o1 e0 e1 |-
  have o0 := OB2.out.cell 0 _ rfl
  have o2 := OB2.out.cell 2 _ rfl
  have o3 := OB2.out.cell 3 _ rfl
  have o4 := OB2.out.cell 4 _ rfl
  have p0 := L2.out.pr j hj
  have HW := hide1 hW0
  have G0 := L2.out.ge j hj
  rw [<- HP.out] at p0 G0
  have AA := hide1 (m_Copy p.mb p.rb p.z W0 p0)
  have P0 := hide1 p0
  have GE := hide1 G0
  clear p0 PK hW0 L1 OB1 K1 d0 G0 e1
  go_wp2_with fail
  refine AA.out.mono ?_
  rintro e w3 ⟨rfl, hm, hk⟩
  have L3 := hide1 (L2.out.keep hk)
  have N3 := hide1 hm
  have OB3 := hide1 (OB2.out.kept hk)
  have K3 := hide1 (K2.out.trans hk)
  have P3 := P0.out.kept hk
  have hs3 : w.heap.size < W0.heap.size := OB2.out.lt
  have JN := hide1 (k_join wb P _ ⟨W0.heap.size, W0.heap.size + 1, p.z⟩ W0.heap.size (by simp) (by omega) (fun q hq => (L2.out.ox.lt q hq).2) (fun i h => (L2.out.pr i h).m.lt) (by omega) w3 L3 N3)
  have l3 := L3.out.lt
  have AP := fun (W : World) (hW : Mz W p.mb p.rb p.z) => AC p W hW
  have P4 := hide1 P3
  obtain ⟨cb, hcb⟩ := zn1 (W0.heap.size)
  simp only [<- hcb] at JN |-
  have PN := hide1 P0.out.m.lt
  have nown : Hid (∀ q, (Value.slice (some ⟨g, 0, none⟩) P.length cap).ownBlock = some q -> ¬ q = p.mb /\ ¬ q = p.rb /\ ¬ q = w.heap.size) := hide1 (fun q hq => ?_)
  rotate_left
  . have su := L2.out.su j hj
    rw [<- HP.out] at su
    have := (hL.out.ox.lt q hq).2
    exact ⟨fun e => su.1 (e ▸ hq), fun e => su.2 (e ▸ hq), by omega⟩
  clear AA hm hk AC hs3 hcb P3 o0 o1 o2 o3 o4 e0 L3 N3 P0 OB2 K2
  go_wp2_with fail
  refine JN.out.mono ?_
  rintro e w4 ⟨rfl, hK4, hk4⟩
  have mo : ¬ p.mb ∈ wb :: (Value.slice (some ⟨g, 0, none⟩) P.length cap).ownBlock.toList := by
   have g1 := GE.out
   intro q
   rcases List.mem_cons.1 q with q | q
   . omega
   . exact ((nown.out _ (by simpa using q)).1) rfl
  have ro : ¬ p.rb ∈ wb :: (Value.slice (some ⟨g, 0, none⟩) P.length cap).ownBlock.toList := by
   have g1 := GE.out
   intro q
   rcases List.mem_cons.1 q with q | q
   . omega
   . exact ((nown.out _ (by simpa using q)).2.1) rfl
  have bo : ¬ w.heap.size ∈ wb :: (Value.slice (some ⟨g, 0, none⟩) P.length cap).ownBlock.toList := by
   intro q
   rcases List.mem_cons.1 q with q | q
   . omega
   . exact ((nown.out _ (by simpa using q)).2.2) rfl
  have OB4 := OB3.out.more hk4 bo
  have o0 := OB4.cell 0 _ rfl
  have o1 := OB4.cell 1 _ rfl
  have o2 := OB4.cell 2 _ rfl
  have o3 := OB4.cell 3 _ rfl
  have o4 := OB4.cell 4 _ rfl
  have A5 := AP w4 (P4.out.more hk4 mo ro)
  have B4 : Hid (Below wb w w4) := hide1 ((kept_below K3.out (by simp) (by omega)).trans (kept_below hk4 (fun q hq => by
   rcases List.mem_cons.1 hq with e | e
   . omega
   . have := (hL.out.ox.lt q (by simpa using e)).1; omega) (by omega)))
  have K4 := hide1 hK4
  clear AP hK4 hk4 OB4 OB3 mo ro bo JN
  go_wp2_with fail
  refine A5.out.mono ?_
  rintro e w5 ⟨rfl, hk5⟩
  go_wp2_with fail
  go_ret
  exact ⟨kr_true k, (K4.out.keep hk5).mono (by omega), B4.out.trans (kept_below hk5 (by simp) (Nat.le_of_lt K4.out.lt))⟩
theorem k_step (wb n : Nat) (hn : n < 1073741824) (x : LOp) (hx : LOk x) (w : World) (ht : Hid (Tb w)) (hw : Hid (KwH w wb n)) :
 Calls prog 17 #[.pointer (some ⟨wb, 0, none⟩), x.v] w fun e w' => KPost wb n x.k w e w' := by
 by_cases h1 : x.k = 1
 . obtain ⟨k, a, b, c, s⟩ := x
   unfold LOp.v
   simp only at h1 |-
   subst h1
   exact (k_step1 wb n hn a b c s w hw).mono (fun e w' h => ⟨⟨true, h.1, hide1 (fun _ => rfl)⟩, h.2⟩)
 . obtain ⟨P, u, hL, hP⟩ := hw.out
   have ox := hL.ox
   by_cases h0 : P.length = 0
   . have hu : ∃ p cap, u = .slice p 0 cap := by
      rcases ox.2 with ⟨e, _⟩ | ⟨g, cap, cur, e, _⟩
      . exact ⟨_, _, e⟩
      . exact ⟨_, _, by rw [e, h0]⟩
     obtain ⟨p, cap, rfl⟩ := hu
     exact k_step0 wb n x hx h1 w ht p cap hL.c0 hw
   . obtain ⟨g, cap, rfl, _, _⟩ := ox.form (by omega)
     obtain ⟨k, a, b, c, s⟩ := x
     unfold LOp.v
     simp only at h1 |-
     by_cases h9 : k = 9
     . exact k_stepC wb n k a b c s hx h1 h9 P g cap (by omega) hP (by omega) w ht (hide1 hL)
     by_cases h3 : k = 3
     . exact k_stepW wb n k a b c s hx h1 h3 P g cap (by omega) hP (by omega) w ht (hide1 hL)
     by_cases h31 : k = 31
     . exact k_stepT wb n k a b c s hx h1 h31 P g cap (by omega) hP (by omega) w ht (hide1 hL)
     by_cases h32 : k = 32
     . exact k_stepS wb n k a b c s hx h1 h32 P g cap (by omega) hP (by omega) w ht (hide1 hL)
     exact k_stepP wb n k a b c s hx h1 (by omega) P g cap (by omega) hP (by omega) w ht (hide1 hL)
structure Lx (w : World) (b o : Nat) (x : LOp) : Prop where
 c0 : w.cell? ⟨b, o, none⟩ = some (.int .i64 x.k)
 c1 : w.cell? ⟨b, o + 1, none⟩ = some (.int .i64 x.a)
 c2 : w.cell? ⟨b, o + 2, none⟩ = some (.int .i64 x.b)
 c3 : w.cell? ⟨b, o + 3, none⟩ = some (.int .i64 x.c)
 c4 : w.cell? ⟨b, o + 4, none⟩ = some (.string x.s)
def LpsAt (w : World) (p : Option Addr) (L : List LOp) : Prop := L = [] \/ ∃ b o, p = some ⟨b, o, none⟩ /\ b < w.heap.size /\ ∀ j (h : j < L.length), Lx w b (o + j * 5) L[j]
theorem Lx.below {w w' : World} {b o n : Nat} {x : LOp} (h : Lx w b o x) (hb : Below n w w') (hn : b < n) : Lx w' b o x :=
 ⟨(hb.cell (p := ⟨b, o, none⟩) hn).trans h.c0, (hb.cell (p := ⟨b, o + 1, none⟩) hn).trans h.c1, (hb.cell (p := ⟨b, o + 2, none⟩) hn).trans h.c2, (hb.cell (p := ⟨b, o + 3, none⟩) hn).trans h.c3, (hb.cell (p := ⟨b, o + 4, none⟩) hn).trans h.c4⟩
theorem LpsAt.below {w w' : World} {p : Option Addr} {L : List LOp} (h : LpsAt w p L) (hb : Below w.heap.size w w') : LpsAt w' p L := by
 rcases h with h | ⟨b, o, rfl, hl, h⟩
 . exact .inl h
 . exact .inr ⟨b, o, rfl, Nat.lt_of_lt_of_le hl hb.size, fun j hj => (h j hj).below hb hl⟩
def SmPost (n : Nat) (e : Ending) : Prop := ∃ r, e = .returned (.bool r) /\ (r = true -> n <= 1073741824)
def KnAt (w : World) (kb : Nat) (K : List Int) : Prop := kb < w.heap.size /\ ∀ j (h : j < K.length), w.cell? ⟨kb, j, none⟩ = some (.int .i64 K[j])
theorem KnAt.below {w w' : World} {kb n : Nat} {K : List Int} (h : KnAt w kb K) (hb : Below n w w') (hn : kb < n) : KnAt w' kb K :=
 ⟨Nat.lt_of_lt_of_le h.1 hb.size, fun j hj => (hb.cell (p := ⟨kb, j, none⟩) hn).trans (h.2 j hj)⟩
def OfR (K : List Int) (k : Int) (e : Ending) : Prop := ∃ r, e = .returned (.bool r) /\ Hid (r = true -> k ∈ K)
theorem k_of (kb cap : Nat) (K : List Int) (hK : K.length <= 100) (k : Int) (w : World) (hw : Hid (KnAt w kb K)) :
 Calls prog 18 #[.slice (some ⟨kb, 0, none⟩) K.length cap, .int .i64 k] w fun e w' => OfR K k e /\ w' = w := by
 go_enter func18, ntmps18
 go_wp2
 go_loop [5] (fun d => ∃ i : Nat, i <= K.length /\ d = .int .i64 i) (fun d => K.length - (intOf d).toNat)
 case atStart => exact ⟨0, by omega, rfl⟩
 case round =>
  obtain ⟨i, hi, rfl⟩ := hrel
  by_cases hlt : i < K.length
  . have c0 := hw.out.2 i hlt
    have hm := hide1 (List.getElem_mem hlt)
    obtain ⟨v, hv⟩ := zn1 (K[i])
    rw [<- hv] at c0 hm
    clear hv
    have hlt' : decide ((i : Int) < (K.length : Int)) = true := by simp; omega
    have hl0 : (0 : Int) <= (i : Int) /\ (i : Int) < (K.length : Int) := by omega
    by_cases he : v = k
    . have he' : (v == k) = true := by simp [he]
      have hmk : Hid (k ∈ K) := hide1 (he ▸ hm.out)
      clear he
      go_wp2
      go_ret
      exact ⟨⟨_, rfl, hide1 (fun _ => hmk.out)⟩, rfl⟩
    . have he' : (v == k) = false := by simp [he]
      clear he
      go_wp2
      go_round
      case rel => exact ⟨i + 1, by omega, by go_num⟩
      case measure => exact zq191
  . have hlt' : decide ((i : Int) < (K.length : Int)) = false := by simp; omega
    go_wp2
    go_ret
    exact ⟨⟨_, rfl, hide1 (fun h => by cases h)⟩, rfl⟩
theorem KwH.new (w : World) : KwH (w.alloc (.cells #[.slice none 0 0] 32)) w.heap.size 0 := by
 refine ⟨[], .slice none 0 0, ?_, by simp⟩
 refine ⟨?_, ?_, ?_, World.ownsRow_nil _ _ _ _, ?_, ?_, ?_, ?_⟩
 case refine_4 => intro a h; simp at h
 case refine_5 => intro a h; simp at h
 case refine_6 => intro a h; simp at h
 case refine_7 => intro a b h; simp at h
 all_goals simp
theorem k_small (p : Option Addr) (cap : Nat) (L : List LOp) (hL : L.length <= 1125899906842624) (hok : Hid (∀ x ∈ L, LOk x)) (w : World) (hw : Hid (LpsAt w p L)) :
 Calls prog 15 #[.slice p L.length cap] w fun e w' => SmPost L.length e /\ w' = w := by
 by_cases hbig : 1073741824 < L.length
 . have hb' : decide (1073741824 < (L.length : Int)) = true := by simp; omega
   go_enter func15, ntmps15
   go_wp2
   go_ret
   exact ⟨⟨_, rfl, by simp⟩, rfl⟩
 . have hb' : decide (1073741824 < (L.length : Int)) = false := by simp; omega
   go_enter func15, ntmps15
   go_wp2
   go_loop [3, 4] (fun c d => ∃ n i : Nat, n <= 1073741824 /\ i <= L.length /\ c = .int .i64 n /\ d = .int .i64 i) (fun _ d => L.length - (intOf d).toNat)
   case atStart => exact ⟨L.length, 0, by omega, by omega, rfl, rfl⟩
   case round =>
    obtain ⟨n, i, hn, hi, rfl, rfl⟩ := hrel
    by_cases hlt : i < L.length
    . rcases hw.out with h0 | ⟨b, o, rfl, hbl, hkx⟩
      . exact zq354
      have c4 := (hkx i hlt).c4
      have hs := (hok.out L[i] (List.getElem_mem hlt)).s1
      obtain ⟨S, hS⟩ := zn1 (L[i].s)
      rw [<- hS] at c4 hs
      clear hS hkx
      by_cases hov : 1073741824 < n + S.size
      . have ho1 : decide (1073741824 < (n : Int) + (S.size : Int)) = true := by simp; omega
        go_wp2
        go_ret
        exact ⟨⟨_, rfl, fun _ => by omega⟩, rfl⟩
      . have ho1 : decide (1073741824 < (n : Int) + (S.size : Int)) = false := by simp; omega
        go_wp2
        go_round
        case rel => exact ⟨n + S.size, i + 1, by omega, by omega, by go_num, by go_num⟩
        case measure => exact zq191
    . have hlt' : decide ((i : Int) < (L.length : Int)) = false := by simp; omega
      go_wp2
      go_ret
      exact ⟨⟨_, rfl, fun _ => by omega⟩, rfl⟩
def aliX : XS := loadX (newX 64) 0 ⟨#[147, 0, 176, 255]⟩
theorem ali_load : loadE (newX 64).b 0 ⟨#[147, 0, 176, 255]⟩ = 0 := by kernel_rfl
theorem ali_kind : (stepX aliX).1.1 = 0 := by kernel_rfl
theorem ali_reg : (stepX aliX).2.x.getD 1 0 = 4294967291 := by kernel_rfl
set_option maxRecDepth 100000 in
theorem k_alive (w : World) : CB 16 #[] (.bool true) w := by
 have XN := hide1 (x_New 64 (by decide) w)
 have hi0 := new_inv 64 (by decide)
 have XL := hide1 (fun W (hW : XAt W (w.heap.size + 1) w.heap.size (newX 64)) => ux_Load (w.heap.size + 1) w.heap.size (newX 64) hi0 0 ⟨#[147, 0, 176, 255]⟩ W hW)
 have eL : loadU (newX 64) 0 ⟨#[147, 0, 176, 255]⟩ = aliX := by unfold loadU; rw [if_pos ali_load]; rfl
 have hi1 : XInv aliX := load_inv hi0 0 _
 have XT := hide1 (fun W (hW : XAt W (w.heap.size + 1) w.heap.size aliX) => x_Step (w.heap.size + 1) w.heap.size aliX hi1 W (hide1 hW))
 have XR := hide1 (fun W (hW : XAt W (w.heap.size + 1) w.heap.size (stepX aliX).2) => ux_Reg (w.heap.size + 1) w.heap.size (stepX aliX).2 1 W hW)
 have eR : regU (stepX aliX).2.x 1 = (4294967291, 0) := by
  unfold regU
  rw [if_pos (by decide)]
  show ((((stepX aliX).2.x.getD 1 0 : Nat) : Int), (0 : Int)) = _
  rw [ali_reg]; rfl
 simp only [eL, ali_load] at XL
 unfold didV at XT
 simp only [ali_kind] at XT
 simp only [eR] at XR
 generalize (stepX aliX).2 = Y at XT XR
 generalize (stepX aliX).1.2 = c at XT
 generalize aliX = Z at XL XT
 generalize newX 64 = N at XN XL
 clear eL eR hi0 hi1
 go_enter func16, ntmps16
 go_wp2_with fail
 refine XN.out.mono ?_
 rintro o w1 ⟨rfl, hx1, hk1⟩
 have XL1 := hide1 (XL.out w1 hx1)
 have K1 := hide1 (kept_below hk1 (by simp) (Nat.le_refl _))
 clear XN XL hx1 hk1
 go_wp2_with fail
 refine XL1.out.mono ?_
 rintro o w2 ⟨rfl, hx2, hk2⟩
 have XT2 := hide1 (XT.out w2 hx2)
 have K2 := hide1 (K1.out.trans (kept_below hk2 (by simp) K1.out.size))
 clear XL1 XT hx2 hk2 K1
 go_wp2_with fail
 refine XT2.out.mono ?_
 rintro o w3 ⟨rfl, hx3, hk3⟩
 have XR3 := hide1 (XR.out _ (hx3.alloc (.cells #[.int .i64 0, .int .i64 c] 45)))
 have K3 := hide1 ((K2.out.trans (kept_below hk3 (by simp) K2.out.size)).alloc (Nat.le_trans K2.out.size hk3.size) (.cells #[.int .i64 0, .int .i64 c] 45))
 clear XT2 XR hx3 hk3 K2
 go_wp2_with fail
 refine XR3.out.mono ?_
 rintro o w4 ⟨rfl, rfl⟩
 clear XR3
 go_wp2_with fail
 go_ret
 exact ⟨rfl, K3.out⟩
set_option maxRecDepth 100000 in
theorem k_playsT (p : Option Addr) (cap kb kcap : Nat) (L : List LOp) (hL : L.length <= 1125899906842624) (hok : Hid (∀ x ∈ L, LOk x)) (w : World) (hw : Hid (LpsAt w p L)) (ht : Hid (Tb w)) (hkn : Hid (KnAt w kb [3])) :
 CB 13 #[.slice p L.length cap, .slice (some ⟨kb, 0, none⟩) 1 kcap] (.bool true) w := by
 have HSM := hide1 (k_small p cap L hL hok w hw)
 have kl := hkn.out.1
 have HB0 : Hid (Below w.heap.size w (w.alloc (.cells #[.slice none 0 0] 32))) := hide1 ((Below.refl _ _).alloc (Nat.le_refl _) _)
 have HX0 := hide1 (KwH.new w)
 have q0 : (w.alloc (.cells #[.slice none 0 0] 32)).cell? ⟨kb, 0, none⟩ = some (.int .i64 3) := (HB0.out.cell kl).trans (hkn.out.2 0 (by simp))
 have HA := hide1 (k_alive (w.alloc (.cells #[.slice none 0 0] 32)))
 go_enter func13, ntmps13
 go_wp2_with fail
 refine HSM.out.mono ?_
 rintro e w1 ⟨⟨r, rfl, hr'⟩, hw1⟩
 rw [hw1]
 clear hw1 w1
 have hr := hide1 hr'
 clear hr' HSM
 cases r
 . go_wp2_with fail
   go_ret
   exact ⟨rfl, Below.refl _ _⟩
 have hL1 := hr.out rfl
 clear hr hL
 go_wp2_with fail
 refine HA.out.mono ?_
 rintro e w1 ⟨rfl, hb1⟩
 have HB1 := hide1 (HB0.out.trans (hb1.mono (by simp)))
 have HX1 := hide1 (HX0.out.keep (Below.kept hb1 []))
 clear HA HB0 HX0 hb1 q0
 go_wp2_with fail
 go_loopw [8] (fun d wr => ∃ i : Nat, i <= L.length /\ d = .int .i64 i /\ Hid (Below w.heap.size w wr) /\ Hid (KwH wr w.heap.size i)) (fun d _ => L.length - (intOf d).toNat)
 case atStart => exact ⟨0, by omega, rfl, HB1, HX1⟩
 case round =>
  obtain ⟨n, hn, rfl, hB, hX⟩ := hrel
  clear HB1 HX1
  by_cases hlt : n < L.length
  . have hops := hide1 (hw.out.below hB.out)
    have htb := hide1 (ht.out.more hB.out)
    rcases hops.out with h0 | ⟨b, o, rfl, hbl, hkx⟩
    . exact zq354
    have hkx := hkx n hlt
    have hxo := hok.out L[n] (List.getElem_mem hlt)
    have hkz : Hid (b < w.heap.size) := by
     rcases hw.out with h0 | ⟨b', o', e', hbl', _⟩
     . exact zq354
     . injection e' with e'; injection e' with e1 e2 e3; subst e1; exact hide1 hbl'
    obtain ⟨x, hx⟩ := zn1 (L[n])
    rw [<- hx] at hkx hxo
    clear hx
    have HST := hide1 (k_step w.heap.size n (by omega) x hxo wr htb hX)
    obtain ⟨k, xa, xb, xc, xs⟩ := x
    unfold LOp.v at HST
    simp only at HST
    have HKX := hide1 hkx
    have c0 := hkx.c0
    have c1 := hkx.c1
    have c2 := hkx.c2
    have c3 := hkx.c3
    have c4 := hkx.c4
    simp only at c0 c1 c2 c3 c4
    have hnn : (0 : Int) <= (n : Int) /\ (n : Int) < (L.length : Int) := by omega
    clear hkx hxo hX hops htb
    go_wp2_with fail
    refine HST.out.mono ?_
    rintro e w2 ⟨⟨r, rfl, hr⟩, hX2, hb2⟩
    have HB2 := hide1 (hB.out.trans hb2)
    have HX2 := hide1 hX2
    have d0 := (HKX.out.below hb2 hkz.out).c0
    simp only at d0
    have KN2 := hide1 (hkn.out.below HB2.out kl)
    have OF := hide1 (k_of kb kcap [3] (by simp) k w2 KN2)
    simp only [List.length_cons, List.length_nil, Nat.zero_add, Nat.reduceAdd] at OF
    have g0 : w2.cell? ⟨kb, 0, none⟩ = some (.int .i64 3) := KN2.out.2 0 (by simp)
    clear c0 c1 c2 c3 c4 HST hX2 hb2 HKX hB KN2
    go_wp2_with fail
    refine OF.out.mono ?_
    rintro e w3 ⟨⟨m, rfl, hm⟩, hw3⟩
    rw [hw3]
    clear hw3 w3 OF
    cases r
    . have nk : ¬ (k = 1 \/ k = 9 \/ k = 3) := fun h => by have := hr.out h; cases this
      have z1 : (k == 1) = false := by simp; omega
      have z9 : (k == 9) = false := by simp; omega
      cases m
      rotate_left
      . have := hm.out rfl
        simp at this
        exact absurd this (by omega)
      clear nk hr hm
      exact zq449
    . clear hr hm
      exact zq449
  . have hlt' : decide ((n : Int) < (L.length : Int)) = false := by simp; omega
    go_wp2_with fail
    go_ret
    exact ⟨rfl, hB.out⟩
theorem k_Watched (p : Option Addr) (cap : Nat) (L : List LOp) (hL : L.length <= 1125899906842624) (hok : Hid (∀ x ∈ L, LOk x)) (w : World) (hw : Hid (LpsAt w p L)) (ht : Hid (Tb w)) :
 CB 11 #[.slice p L.length cap] (.bool true) w := by
 have hb : Hid (Below w.heap.size w (w.alloc (.cells #[.int .i64 3] 3))) := hide1 ((Below.refl _ _).alloc (Nat.le_refl _) _)
 have kn : Hid (KnAt (w.alloc (.cells #[.int .i64 3] 3)) w.heap.size [3]) := hide1 ⟨by simp, fun j hj => by
  match j, hj with
  | 0, _ => simp
  | _ + 1, h => exact absurd h (by simp)⟩
 have HP := hide1 (k_playsT p cap w.heap.size 1 L hL hok _ (hide1 (hw.out.below hb.out)) (hide1 (ht.out.more hb.out)) kn)
 clear kn
 go_enter func11, ntmps11
 go_wp2_with fail
 refine HP.out.mono ?_
 rintro e w1 ⟨rfl, hb1⟩
 go_wp2_with fail
 go_ret
 exact ⟨rfl, hb.out.trans (hb1.mono (by simp))⟩
end
end Go.Proofs.YtmlgonbhoknoiabGreatDoor
