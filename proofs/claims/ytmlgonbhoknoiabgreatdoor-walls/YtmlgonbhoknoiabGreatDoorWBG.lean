import Derived.Test.YtmlgonbhoknoiabGreatDoorWBE
set_option maxHeartbeats 8000000
set_option linter.all false
namespace Go.Proofs.YtmlgonbhoknoiabGreatDoor
open Go.RowKit Go.Proofs.Tryz
section
attribute [local go_sem ↓] Go.wp_at_zero Go.wp_at_succ
structure Bo (w : World) (b n : Nat) : Prop where
 cell : ∀ j, j < n -> ∃ r : Bool, w.cell? ⟨b, j, none⟩ = some (.bool r)
 fro : ∀ o, w.frozen? ⟨b, o, none⟩ = false
 lt : b < w.heap.size
theorem Bo.more {w w' : World} {b n : Nat} {F : List Nat} (h : Bo w b n) (hk : Kept F w w') (hn : ¬ b ∈ F) : Bo w' b n := ⟨fun j hj => by obtain ⟨r, hr⟩ := h.cell j hj; exact ⟨r, (hk.cell (p := ⟨b, j, none⟩) h.lt hn).trans hr⟩, fun o => (hk.frozen (p := ⟨b, o, none⟩) h.lt hn).trans (h.fro o), Nat.lt_of_lt_of_le h.lt hk.size⟩
theorem Bo.set {w : World} {b n : Nat} (h : Bo w b n) (c k : Nat) (r : Bool) : Bo (w.setCell ⟨c, k, none⟩ (.bool r)) b n := by
 refine ⟨fun j hj => ?_, fun o => by rw [World.frozen?_setCell]; exact h.fro o, Nat.lt_of_lt_of_le h.lt ((Kept.refl [c] w).setCell (.inl (by simp)) (.bool r)).size⟩
 obtain ⟨x, hx⟩ := h.cell j hj
 by_cases e : b = c /\ j = k
 . obtain ⟨rfl, rfl⟩ := e
   exact ⟨r, World.cell?_setCell_same _ _ _ hx⟩
 . refine ⟨x, ?_⟩
   rw [World.cell?_setCell_other _ _ _ _ (by simp; omega)]
   exact hx
structure Tabs (w : World) (tb b0 b1 b2 b3 b4 n m : Nat) : Prop where
 hdr : BoxF w tb [.slice (some ⟨b0, 0, none⟩) n n, .slice (some ⟨b1, 0, none⟩) n n, .slice (some ⟨b2, 0, none⟩) n n, .slice (some ⟨b3, 0, none⟩) m m, .slice (some ⟨b4, 0, none⟩) n n]
 s0 : Bo w b0 n
 s1 : Bo w b1 n
 s2 : Bo w b2 n
 s3 : Bo w b3 m
 s4 : Bo w b4 n
 ne : ¬ tb ∈ [b0, b1, b2, b3, b4]
 nd : ¬ b1 = b2
 n4 : ¬ b4 ∈ [b0, b1, b2, b3]
theorem Tabs.set {w : World} {tb b0 b1 b2 b3 b4 n m : Nat} (h : Tabs w tb b0 b1 b2 b3 b4 n m) (c k : Nat) (r : Bool) (hc : c ∈ [b0, b1, b2, b3, b4]) : Tabs (w.setCell ⟨c, k, none⟩ (.bool r)) tb b0 b1 b2 b3 b4 n m :=
 ⟨h.hdr.more ((Kept.refl [c] w).setCell (.inl (by simp)) (.bool r)) (by simp; rintro rfl; exact h.ne hc), h.s0.set c k r, h.s1.set c k r, h.s2.set c k r, h.s3.set c k r, h.s4.set c k r, h.ne, h.nd, h.n4⟩
theorem Tabs.kept {w w' : World} {tb b0 b1 b2 b3 b4 n m : Nat} (h : Tabs w tb b0 b1 b2 b3 b4 n m) (hk : Kept [] w w') : Tabs w' tb b0 b1 b2 b3 b4 n m :=
 ⟨h.hdr.kept hk, h.s0.more hk (by simp), h.s1.more hk (by simp), h.s2.more hk (by simp), h.s3.more hk (by simp), h.s4.more hk (by simp), h.ne, h.nd, h.n4⟩
def Tru (w : World) (b j : Nat) : Prop := w.cell? ⟨b, j, none⟩ = some (.bool true)
def Up (w w' : World) : Prop := ∀ b j, b < w.heap.size -> Tru w b j -> Tru w' b j
theorem Up.refl (w : World) : Up w w := fun _ _ _ h => h
theorem Up.kept {w w' : World} (h : Kept [] w w') : Up w w' := fun b j hb ht => (h.cell (p := ⟨b, j, none⟩) hb (by simp)).trans ht
theorem Up.set (w : World) (b k : Nat) : Up w (w.setCell ⟨b, k, none⟩ (.bool true)) := by
 intro c j hc ht
 unfold Tru at *
 by_cases e : c = b /\ j = k
 . obtain ⟨rfl, rfl⟩ := e
   exact World.cell?_setCell_same _ _ _ ht
 . rw [World.cell?_setCell_other _ _ _ _ (by simp; omega)]
   exact ht
theorem Up.trans {w w' w'' : World} (h : Up w w') (hs : w.heap.size <= w'.heap.size) (h2 : Up w' w'') : Up w w'' := fun b j hb ht => h2 b j (by omega) (h b j hb ht)
def Cov (w : World) (b1 b2 n : Nat) (us su : Bool) (e P c : Nat) : Prop := ((bitN e 4 == us) || (bitN e 4 && su)) = true -> ∀ k, k < c -> ∀ p, P + k = p + 524288 -> p < n -> Tru w b1 p /\ (bitN e 2 = true -> Tru w b2 p)
theorem Cov.up {w w' : World} {b1 b2 n : Nat} {us su : Bool} {e P c : Nat} (h : Cov w b1 b2 n us su e P c) (hu : Up w w') (h1 : b1 < w.heap.size) (h2 : b2 < w.heap.size) : Cov w' b1 b2 n us su e P c := fun hm k hk p hp hn => ⟨hu _ _ h1 (h hm k hk p hp hn).1, fun hw => hu _ _ h2 ((h hm k hk p hp hn).2 hw)⟩
theorem bit_tst (v i : Nat) (hv : v < 4294967296) (x : Int) (hx : (v : Int) / 2 ^ i = x) : (bits .and .i64 x 1 == 1) = bitN v i := by
 have e : x = ((v / 2 ^ i : Nat) : Int) := by rw [<- hx]; simp
 have l : v / 2 ^ i < 9223372036854775808 := Nat.lt_of_le_of_lt (Nat.div_le_self _ _) (by omega)
 have := b_and (v / 2 ^ i) 1 l (by decide)
 rw [e]
 have h1 : bits .and .i64 ((v / 2 ^ i : Nat) : Int) 1 = ((v / 2 ^ i &&& 1 : Nat) : Int) := this
 rw [h1, Nat.and_one_is_mod]
 unfold bitN
 rw [Bool.eq_iff_iff]
 simp
 omega
set_option maxRecDepth 100000 in
theorem k_cover (tb b0 b1 b2 b3 b4 n m : Nat) (hn : n <= 100) (c : Nat) (hc : c <= 1024) (ppn e : Nat) (p1 : ppn <= 4294967296) (he : e < 4294967296) (u s : Bool) (w : World) (hw : Hid (Tabs w tb b0 b1 b2 b3 b4 n m)) :
 Calls prog 150 #[.pointer (some ⟨tb, 0, none⟩), .int .i64 ppn, .int .i64 c, .int .i64 e, .bool u, .bool s] w fun o w' => o = .returned (.tuple #[]) /\ Tabs w' tb b0 b1 b2 b3 b4 n m /\ Kept [b0, b1, b2, b3] w w' /\ Up w w' /\ Cov w' b1 b2 n u s e ppn c := by
 have K0 := hide1 (Kept.refl [b0, b1, b2, b3] w)
 have U0 := hide1 (Up.refl w)
 have q4 := bit_tst e 4 he ((e : Int) / 16) rfl
 have q2 := bit_tst e 2 he ((e : Int) / 4) rfl
 have N0 : Hid (((bitN e 4 == u) || (bitN e 4 && s)) = false -> ∀ W i, Cov W b1 b2 n u s e ppn i) := hide1 (fun h W i hm => absurd hm (by rw [h]; decide))
 have V0 : Hid (Cov w b1 b2 n u s e ppn 0) := hide1 (fun _ k hk => absurd hk (by omega))
 have ST : Hid (∀ i W, Cov W b1 b2 n u s e ppn i -> (∀ p, ppn + i = p + 524288 -> p < n -> False) -> Cov W b1 b2 n u s e ppn (i + 1)) := hide1 (fun i W h hp hm k hk p e1 e2 => by
  rcases Nat.lt_or_ge k i with h3 | h3
  . exact h hm k h3 p e1 e2
  . obtain rfl : k = i := by omega
    exact absurd (hp p e1 e2) (by simp))
 have SU : Hid (∀ i W W' p, Cov W b1 b2 n u s e ppn i -> Tabs W tb b0 b1 b2 b3 b4 n m -> Up W W' -> ppn + i = p + 524288 -> Tru W' b1 p -> (bitN e 2 = true -> Tru W' b2 p) -> Cov W' b1 b2 n u s e ppn (i + 1)) := hide1 (fun i W W' p h ht hu hp t1 t2 hm k hk p' e1 e2 => by
  rcases Nat.lt_or_ge k i with h3 | h3
  . exact h.up hu ht.s1.lt ht.s2.lt hm k h3 p' e1 e2
  . obtain rfl : k = i := by omega
    obtain rfl : p' = p := by omega
    exact ⟨t1, t2⟩)
 obtain ⟨bu, hbu⟩ := zn1 (bitN e 4)
 obtain ⟨bw, hbw⟩ := zn1 (bitN e 2)
 rw [<- hbu] at q4 N0
 rw [<- hbw] at q2 SU
 clear he hbu hbw
 by_cases hm : ((bu == u) || (bu && s)) = false
 . have N1 := hide1 (N0.out hm)
   cases bu <;> cases u <;> cases s <;> first | exact absurd hm (by decide) | skip
   all_goals as_aux_lemma =>
    clear N0 ST SU V0 hm
    go_enter func150, ntmps150
    go_upto_region 2 with fail
    all_goals
     go_wp2_with fail
     go_loopw [14] (fun x wr => ∃ i : Nat, i <= c /\ x = .int .i64 i /\ Hid (Tabs wr tb b0 b1 b2 b3 b4 n m) /\ Hid (Kept [b0, b1, b2, b3] w wr) /\ Hid (Up w wr)) (fun x _ => c - (intOf x).toNat)
     case atStart => exact ⟨0, by omega, rfl, hw, K0, U0⟩
     case round =>
      obtain ⟨i, hi, rfl, hb, hk, hU⟩ := hrel
      clear hw K0 U0 q2
      have hz := hb.out.hdr.lt
      have c1 := hb.out.hdr.cell 1 _ rfl
      by_cases hlt : i < c
      . have hlt' : decide ((i : Int) < (c : Int)) = true := by simp; omega
        go_wp2_with fail
        all_goals
         go_roundw
         case rel => exact ⟨i + 1, by omega, by go_num, hb, hk, hU⟩
         case measure => exact zq186
      . have hlt' : decide ((i : Int) < (c : Int)) = false := by simp; omega
        go_wp2_with fail
        go_end0
        exact ⟨rfl, hb.out, hk.out, hU.out, N1.out _ _⟩
 . clear N0
   cases bu <;> cases u <;> cases s <;> first | exact absurd rfl hm | skip
   all_goals cases bw
   all_goals as_aux_lemma =>
    clear hm
    go_enter func150, ntmps150
    go_upto_region 2 with fail
    all_goals
     go_wp2_with fail
     go_loopw [14] (fun x wr => ∃ i : Nat, i <= c /\ x = .int .i64 i /\ Hid (Tabs wr tb b0 b1 b2 b3 b4 n m) /\ Hid (Kept [b0, b1, b2, b3] w wr) /\ Hid (Up w wr) /\ Hid (Cov wr b1 b2 n _ _ e ppn i)) (fun x _ => c - (intOf x).toNat)
     case atStart => exact ⟨0, by omega, rfl, hw, K0, U0, V0⟩
     case round =>
      obtain ⟨i, hi, rfl, hb, hk, hU, hV⟩ := hrel
      clear hw K0 U0 V0
      have hz := hb.out.hdr.lt
      have c1 := hb.out.hdr.cell 1 _ rfl
      by_cases hlt : i < c
      . have hlt' : decide ((i : Int) < (c : Int)) = true := by simp; omega
        by_cases h0 : 0 <= (ppn : Int) + i - 524288
        . obtain ⟨p, hp⟩ : ∃ p : Nat, (ppn : Int) + i - 524288 = p := ⟨((ppn : Int) + i - 524288).toNat, by omega⟩
          by_cases h1 : p < n
          . have h1' : decide ((p : Int) < (n : Int)) = true := by simp; omega
            have c2 := hb.out.hdr.cell 2 _ rfl
            obtain ⟨r1, e1⟩ := hb.out.s1.cell p h1
            obtain ⟨r2, e2⟩ := hb.out.s2.cell p h1
            have f1 := hb.out.s1.fro p
            have f2 := hb.out.s2.fro p
            have n1 : ¬ tb = b1 := fun h => hb.out.ne (by simp [h])
            have n2 : ¬ b1 = tb := fun h => n1 h.symm
            have n3 := hb.out.nd
            have n4 : ¬ b2 = b1 := fun h => n3 h.symm
            have B1 := hide1 (hb.out.set b1 p true (by simp))
            have G1 : Hid (Kept [b0, b1, b2, b3] wr (wr.setCell ⟨b1, p, none⟩ (.bool true))) := zq140
            have U1 := hide1 (Up.set wr b1 p)
            have B2 := hide1 (B1.out.set b2 p true (by simp))
            have G2 : Hid (Kept [b0, b1, b2, b3] wr ((wr.setCell ⟨b1, p, none⟩ (.bool true)).setCell ⟨b2, p, none⟩ (.bool true))) := hide1 (G1.out.setCell (.inl (by simp)) _)
            have U2 := hide1 (U1.out.trans G1.out.size (Up.set _ b2 p))
            have T1 : Hid (Tru (wr.setCell ⟨b1, p, none⟩ (.bool true)) b1 p) := hide1 (World.cell?_setCell_same _ _ _ e1)
            have T2 : Hid (Tru ((wr.setCell ⟨b1, p, none⟩ (.bool true)).setCell ⟨b2, p, none⟩ (.bool true)) b2 p) := hide1 (by
             obtain ⟨r, er⟩ := B1.out.s2.cell p h1
             exact World.cell?_setCell_same _ _ _ er)
            have PI := hide1 (show ppn + i = p + 524288 by omega)
            go_wp2_with fail
            all_goals
             go_roundw
             case rel => first
              | exact ⟨i + 1, by omega, by go_num, B1, hide1 (hk.out.trans G1.out), hide1 (hU.out.trans hk.out.size U1.out), hide1 (SU.out i _ _ p hV.out hb.out U1.out PI.out T1.out (fun h => Bool.noConfusion h))⟩
              | exact ⟨i + 1, by omega, by go_num, B2, hide1 (hk.out.trans G2.out), hide1 (hU.out.trans hk.out.size U2.out), hide1 (SU.out i _ _ p hV.out hb.out U2.out PI.out ((Up.set _ b2 p) _ _ B1.out.s1.lt T1.out) (fun _ => T2.out))⟩
             case measure => exact zq186
          . have h1' : decide ((p : Int) < (n : Int)) = false := by simp; omega
            exact zq398
        . have h0' : decide (0 <= (ppn : Int) + i - 524288) = false := by simp; omega
          exact zq398
      . have hlt' : decide ((i : Int) < (c : Int)) = false := by simp; omega
        obtain rfl : i = c := by omega
        go_wp2_with fail
        go_end0
        exact ⟨rfl, hb.out, hk.out, hU.out, hV.out⟩
end
theorem holds_at {a n L : Nat} (h : holdsD (a : Nat) (n : Nat) L = true) : 2147483648 <= a /\ a - 2147483648 + n <= L /\ 1 <= n := by
 unfold holdsD at h
 simp at h
 omega
def mineB (C : CsrS) (e : Nat) : Bool := bif bitN e 4 then (decide (C.mode = 0) || (decide (C.mode = 1) && decide (C.sum = 1))) else !decide (C.mode = 0)
theorem all_mine (C : CsrS) (e k : Nat) (h : allD C e k C.mode = true) (hm : C.mode = 0 \/ C.mode = 1) : mineB C e = true /\ (k = 2 -> bitN e 2 = true) := by
 revert h
 unfold allD allB mineB
 rcases hm with h0 | h0 <;> rw [h0] <;> cases bitN e 4 <;> cases bitN e 1 <;> cases bitN e 2 <;> cases bitN e 3 <;> by_cases hs : C.sum = 1 <;> by_cases k0 : k = 0 <;> by_cases k1 : k = 1 <;> simp [hs, k0, k1] <;> omega
def isLf (e : Nat) : Prop := bitN e 0 = true /\ (bitN e 1 = true \/ bitN e 3 = true)
structure EntOf (B : BusS) (P a e : Nat) : Prop where
 pg : a / 4096 = P
 al : a % 4 = 0
 h : holdsD (a : Nat) 4 B.ram.length = true
 e : entE B a = e
structure Clo (T A W F : Nat -> Prop) (C : CsrS) (B : BusS) : Prop where
 root : T (C.satp % 4194304)
 l1 : ∀ a e, EntOf B (C.satp % 4194304) a e -> isLf e -> F a /\ (mineB C e = true -> ∀ k, k < 1024 -> A (e / 1024 + k) /\ (bitN e 2 = true -> W (e / 1024 + k)))
 pt : ∀ a e, EntOf B (C.satp % 4194304) a e -> bitN e 0 = true -> bitN e 1 = false -> bitN e 3 = false -> T (e / 1024) /\ ∀ a' e', EntOf B (e / 1024) a' e' -> isLf e' -> F a' /\ (mineB C e' = true -> A (e' / 1024) /\ (bitN e' 2 = true -> W (e' / 1024)))
def mkA (B : BusS) (a k : Nat) : BusS := if adB (bitN (entE B a) 6) (bitN (entE B a) 7) k = 0 then B else { B with ram := stN B.ram (a - 2147483648) 4 (entE B a + adB (bitN (entE B a) 6) (bitN (entE B a) 7) k) }
theorem mkA_len (B : BusS) (a k : Nat) : (mkA B a k).ram.length = B.ram.length := by
 unfold mkA; split
 . rfl
 . exact stN_length _ _ _ _
theorem ad_bits (e k : Nat) : (∀ i, i < 6 -> bitN (e + adB (bitN e 6) (bitN e 7) k) i = bitN e i) /\ (e + adB (bitN e 6) (bitN e 7) k) / 1024 = e / 1024 /\ (e < 4294967296 -> e + adB (bitN e 6) (bitN e 7) k < 4294967296) := by
 obtain ⟨d, hd⟩ := zn1 (adB (bitN e 6) (bitN e 7) k)
 rw [<- hd]
 have hd' : d = 0 \/ (d = 64 /\ e / 64 % 2 = 0) \/ (d = 128 /\ e / 128 % 2 = 0) \/ (d = 192 /\ e / 64 % 2 = 0 /\ e / 128 % 2 = 0) := by
  rw [hd]
  unfold adB bitN
  by_cases h6 : e / 64 % 2 = 1 <;> by_cases h7 : e / 128 % 2 = 1 <;> by_cases hk : k = 2 <;> simp [h6, h7, hk] <;> omega
 clear hd
 refine ⟨fun i hi => ?_, by omega, by omega⟩
 unfold bitN
 rw [decide_eq_decide]
 have hi' : i = 0 \/ i = 1 \/ i = 2 \/ i = 3 \/ i = 4 \/ i = 5 := by omega
 rcases hi' with rfl | rfl | rfl | rfl | rfl | rfl <;> simp <;> omega
theorem st_get : ∀ (n : Nat) (r : List UInt8) (p v j : Nat), p + n <= r.length -> (stN r p n v)[j]? = if p <= j /\ j < p + n then some (UInt8.ofNat (v / 256 ^ (j - p))) else r[j]?
 | 0, r, p, v, j, h => by rw [if_neg (by omega)]; rfl
 | n + 1, r, p, v, j, h => by
  simp only [stN]
  rw [st_get n _ _ _ _ (by simp; omega)]
  by_cases h1 : p + 1 <= j /\ j < p + 1 + n
  . rw [if_pos h1, if_pos (by omega), Nat.div_div_eq_div_mul, <- Nat.pow_succ', show (j - (p + 1)).succ = j - p by omega]
  . rw [if_neg h1]
    by_cases h2 : j = p
    . subst h2
      rw [List.getElem?_set_self (by omega), if_pos (by omega), Nat.sub_self]; simp
    . rw [List.getElem?_set_ne (by omega), if_neg (by omega)]
theorem ld_of (l : List UInt8) (a b c d : UInt8) (h : l = [a, b, c, d]) : ldN l = a.toNat + 256 * (b.toNat + 256 * (c.toNat + 256 * d.toNat)) := by subst h; simp [ldN]
theorem u8n (v : Nat) : (UInt8.ofNat v).toNat = v % 256 := by simp [UInt8.toNat_ofNat']
theorem rd_st (B : BusS) (p q v : Nat) (hp : p + 4 <= B.ram.length) (hv : v < 4294967296) (hd : p = q \/ p + 4 <= q \/ q + 4 <= p) (hq : q + 4 <= B.ram.length) : rdRam { B with ram := stN B.ram p 4 v } q 4 = if p = q then v else rdRam B q 4 := by
 unfold rdRam
 dsimp only
 by_cases h : p = q
 . subst h
   rw [if_pos rfl]
   have e : ((stN B.ram p 4 v).drop p).take 4 = [UInt8.ofNat v, UInt8.ofNat (v / 256), UInt8.ofNat (v / 65536), UInt8.ofNat (v / 16777216)] := by
    apply List.ext_getElem?
    intro i
    rw [List.getElem?_take]
    by_cases hi : i < 4
    . rw [if_pos hi, List.getElem?_drop, st_get _ _ _ _ _ hp, if_pos (by omega), show p + i - p = i by omega]
      have : i = 0 \/ i = 1 \/ i = 2 \/ i = 3 := by omega
      rcases this with rfl | rfl | rfl | rfl <;> simp
    . rw [if_neg hi, List.getElem?_eq_none (by simp; omega)]
   rw [ld_of _ _ _ _ _ e, u8n, u8n, u8n, u8n]
   omega
 . rw [if_neg h]
   congr 1
   apply List.ext_getElem?
   intro i
   rw [List.getElem?_take, List.getElem?_take]
   by_cases hi : i < 4
   . rw [if_pos hi, if_pos hi, List.getElem?_drop, List.getElem?_drop, st_get _ _ _ _ _ hp, if_neg (by omega)]
   . rw [if_neg hi, if_neg hi]
theorem ent_mk (B : BusS) (a k a' : Nat) (h : holdsD (a : Nat) 4 B.ram.length = true) (h' : holdsD (a' : Nat) 4 B.ram.length = true) (ha : a % 4 = 0) (ha' : a' % 4 = 0) : entE (mkA B a k) a' = if a = a' then entE B a + adB (bitN (entE B a) 6) (bitN (entE B a) 7) k else entE B a' := by
 have q1 := holdsD_at h
 have q2 := holdsD_at h'
 unfold mkA
 split
 . next h0 =>
   rw [h0]
   split
   . next e => rw [e, Nat.add_zero]
   . rfl
 . have := rd_st B (a - 2147483648) (a' - 2147483648) (entE B a + adB (bitN (entE B a) 6) (bitN (entE B a) 7) k) q1.2 ((ad_bits _ _).2.2 (entE_lt _ _)) (by omega) q2.2
   unfold entE at this |-
   rw [this]
   by_cases e : a = a'
   . rw [if_pos e, if_pos (by omega)]
   . rw [if_neg e, if_neg (by omega)]
structure Alike (e e' : Nat) : Prop where
 b : ∀ i, i < 6 -> bitN e' i = bitN e i
 p : e' / 1024 = e / 1024
theorem Alike.lf {e e' : Nat} (h : Alike e e') : isLf e' -> isLf e := by
 unfold isLf; rw [h.b 0 (by omega), h.b 1 (by omega), h.b 3 (by omega)]; exact id
theorem Alike.mine {e e' : Nat} (h : Alike e e') (C : CsrS) : mineB C e' = mineB C e := by unfold mineB; rw [h.b 4 (by omega)]
theorem EntOf.back {B : BusS} {P a' e' a k : Nat} (h : EntOf (mkA B a k) P a' e') (ha : holdsD (a : Nat) 4 B.ram.length = true) (hl : a % 4 = 0) : ∃ e, EntOf B P a' e /\ Alike e e' := by
 have h2 := h.h
 rw [mkA_len] at h2
 refine ⟨_, ⟨h.pg, h.al, h2, rfl⟩, ?_⟩
 have e := h.e
 rw [ent_mk B a k a' ha h2 hl h.al] at e
 rw [<- e]
 split
 . next q => rw [<- q]; exact ⟨(ad_bits _ _).1, (ad_bits _ _).2.1⟩
 . exact ⟨fun _ _ => rfl, rfl⟩
theorem Clo.mk' {T A W F : Nat -> Prop} {C : CsrS} {B : BusS} (h : Clo T A W F C B) (a k : Nat) (ha : holdsD (a : Nat) 4 B.ram.length = true) (hl : a % 4 = 0) : Clo T A W F C (mkA B a k) := by
 refine ⟨h.root, fun a' e' q hlf => ?_, fun a' e' q b0 b1 b3 => ?_⟩
 . obtain ⟨e, q', al⟩ := q.back ha hl
   have := h.l1 a' e q' (al.lf hlf)
   rw [al.mine, al.p, al.b 2 (by omega)]
   exact this
 . obtain ⟨e, q', al⟩ := q.back ha hl
   rw [al.b 0 (by omega)] at b0
   rw [al.b 1 (by omega)] at b1
   rw [al.b 3 (by omega)] at b3
   have := h.pt a' e q' b0 b1 b3
   rw [al.p]
   refine ⟨this.1, fun a2 e2 r hlf => ?_⟩
   obtain ⟨e3, r', al2⟩ := r.back ha hl
   have := this.2 a2 e3 r' (al2.lf hlf)
   rw [al2.mine, al2.p, al2.b 2 (by omega)]
   exact this
structure TrOk (T A W F : Nat -> Prop) (C : CsrS) (B : BusS) (va k : Nat) (t : (Nat × Nat) × BusS) : Prop where
 clo : Clo T A W F C t.2
 mkd : t.2 = B \/ ∃ a, F a /\ T (a / 4096) /\ a % 4 = 0 /\ holdsD (a : Nat) 4 B.ram.length = true /\ t.2 = mkA B a k
 pg : t.1.2 = 0 -> A (t.1.1 / 4096) /\ (k = 2 -> W (t.1.1 / 4096)) /\ t.1.1 % 4096 = va % 4096
theorem TrOk.no {T A W F : Nat -> Prop} {C : CsrS} {B : BusS} (h : Clo T A W F C B) (va k f : Nat) (hf : f ≠ 0) : TrOk T A W F C B va k ((0, f), B) := ⟨h, .inl rfl, fun e => absurd e hf⟩
theorem leaf_ok' {T A W F : Nat -> Prop} {C : CsrS} {B : BusS} (h : Clo T A W F C B) (hm : C.mode = 0 \/ C.mode = 1) (a e lvl va k : Nat) (he : entE B a = e) (hh : holdsD (a : Nat) 4 B.ram.length = true) (al : a % 4 = 0) (hF : F a) (hT : T (a / 4096)) (hv : lvl = 0 \/ lvl = 1)
 (hA : mineB C e = true -> ∀ j, j < (if lvl = 1 then 1024 else 1) -> A (e / 1024 + j) /\ (bitN e 2 = true -> W (e / 1024 + j))) : TrOk T A W F C B va k (leafD B C e a lvl va k C.mode) := by
 unfold leafD
 split
 . exact .no h _ _ 1 (by omega)
 split
 . exact .no h _ _ 1 (by omega)
 . next h1 h2 =>
   have hm2 := all_mine C e k (by simpa using h1) hm
   refine ⟨?_, .inr ⟨a, hF, hT, al, hh, ?_⟩, fun _ => ?_⟩
   . have := h.mk' a k hh al
     unfold mkA at this
     rw [he] at this
     exact this
   . unfold mkA
     rw [he]
   . dsimp only
     have q : (e / 1024 * 4096 + va % spanN lvl) / 4096 = e / 1024 + va % spanN lvl / 4096 /\ (e / 1024 * 4096 + va % spanN lvl) % 4096 = va % 4096 /\ va % spanN lvl / 4096 < (if lvl = 1 then 1024 else 1) := by
      rcases hv with rfl | rfl
      . simp [spanN]; omega
      . simp [spanN]; omega
     rw [q.1, q.2.1]
     have := hA hm2.1 _ q.2.2
     exact ⟨this.1, fun k2 => this.2 (hm2.2 k2), rfl⟩
theorem ent_pg (P va lvl : Nat) : entA (P * 4096) va lvl / 4096 = P /\ entA (P * 4096) va lvl % 4 = 0 := by
 unfold entA
 obtain ⟨x, hx⟩ := zn1 (va / spanN lvl % 1024)
 have : x < 1024 := by rw [hx]; omega
 rw [<- hx]
 omega
theorem walk_ok' {T A W F : Nat -> Prop} {C : CsrS} {B : BusS} (h : Clo T A W F C B) (hm : C.mode = 0 \/ C.mode = 1) (va k : Nat) : TrOk T A W F C B va k (walk1 B C (C.satp % 4194304 * 4096) va k C.mode) := by
 have p1 := ent_pg (C.satp % 4194304) va 1
 have n1 : TrOk T A W F C B va k ((0, 1), B) := .no h _ _ 1 (by omega)
 have n2 : TrOk T A W F C B va k ((0, 2), B) := .no h _ _ 2 (by omega)
 unfold walk1
 split
 . exact n2
 next h1 =>
 have E1 : EntOf B (C.satp % 4194304) (entA (C.satp % 4194304 * 4096) va 1) (entE B (entA (C.satp % 4194304 * 4096) va 1)) := ⟨p1.1, p1.2, by simpa using h1, rfl⟩
 obtain ⟨a, ha⟩ := zn1 (entA (C.satp % 4194304 * 4096) va 1)
 rw [<- ha] at E1 p1 |-
 obtain ⟨e, he⟩ := zn1 (entE B a)
 rw [<- he] at E1 |-
 split
 . exact n1
 next h2 =>
 have b0 : bitN e 0 = true := by
  cases hb : bitN e 0
  . exact absurd (.inl hb) h2
  . rfl
 split
 . next h3 =>
   split
   . exact n1
   have PT := h.pt a e E1 b0 h3.1 h3.2
   have p2 := ent_pg (e / 1024) va 0
   unfold walk0
   split
   . exact n2
   next g1 =>
   have E2 : EntOf B (e / 1024) (entA (e / 1024 * 4096) va 0) (entE B (entA (e / 1024 * 4096) va 0)) := ⟨p2.1, p2.2, by simpa using g1, rfl⟩
   obtain ⟨a', ha'⟩ : ∃ a', a' = entA (e / 1024 * 4096) va 0 := ⟨_, rfl⟩
   rw [<- ha'] at E2 p2 |-
   obtain ⟨e', he'⟩ : ∃ e', e' = entE B a' := ⟨_, rfl⟩
   rw [<- he'] at E2 |-
   split
   . exact n1
   next g2 =>
   split
   . exact n1
   next g3 =>
   have lf : isLf e' := by
    unfold isLf
    cases q0 : bitN e' 0 <;> cases q1 : bitN e' 1 <;> cases q3 : bitN e' 3 <;> simp [q0, q1, q3] at g2 g3 |-
   have := PT.2 a' e' E2 lf
   refine leaf_ok' h hm a' e' 0 va k he'.symm E2.h E2.al this.1 (by rw [E2.pg]; exact PT.1) (.inl rfl) (fun q j hj => ?_)
   have j0 : j = 0 := by simpa using hj
   subst j0
   exact this.2 q
 . next h3 =>
   have lf : isLf e := by
    unfold isLf
    refine ⟨b0, ?_⟩
    cases q1 : bitN e 1 <;> cases q3 : bitN e 3 <;> simp [q1, q3] at h3 |-
   have := h.l1 a e E1 lf
   exact leaf_ok' h hm a e 1 va k he.symm E1.h E1.al this.1 (by rw [E1.pg]; exact h.root) (.inr rfl) (fun q j hj => this.2 q j (by simpa using hj))
structure Pgd (C : CsrS) : Prop where
 m : C.mode = 0 \/ C.mode = 1
 v : C.mprv = 0
 s : 2147483648 <= C.satp
theorem Pgd.pg {C : CsrS} (h : Pgd C) (k : Nat) : pgD C k = true /\ actsD C k = C.mode := by
 have ha : actsD C k = C.mode := by
  unfold actsD
  have := h.v
  split
  . rfl
  . rw [if_neg (by simp; omega)]
 unfold pgD
 rw [ha]
 have h1 : C.mode < 3 := by have := h.m; omega
 have h2 := h.s
 exact ⟨by simp [h1, h2], rfl⟩
theorem tr_ok' {T A W F : Nat -> Prop} {C : CsrS} {B : BusS} (h : Clo T A W F C B) (hm : Pgd C) (va k : Nat) : TrOk T A W F C B va k (trD B C va k) := by
 unfold trD
 rw [if_pos (hm.pg k).1, (hm.pg k).2]
 exact walk_ok' h hm.m va k
section
attribute [local go_sem ↓] Go.wp_at_zero Go.wp_at_succ
theorem and_10 (v : Nat) : v &&& 10 = 0 ↔ bitN v 1 = false /\ bitN v 3 = false := by
 have h : ∀ x, x < 16 -> (x &&& 10 = 0 ↔ bitN x 1 = false /\ bitN x 3 = false) := by decide
 have e : v &&& 10 = v % 16 &&& 10 := by
  have := Nat.and_mod_two_pow (a := v) (b := 10) (n := 4)
  have l : v &&& 10 < 16 := Nat.lt_of_le_of_lt Nat.and_le_right (by decide)
  rw [Nat.mod_eq_of_lt (show v &&& 10 < 2 ^ 4 from l)] at this
  exact this
 have e1 : bitN v 1 = bitN (v % 16) 1 := by unfold bitN; rw [decide_eq_decide]; omega
 have e3 : bitN v 3 = bitN (v % 16) 3 := by unfold bitN; rw [decide_eq_decide]; omega
 rw [e, e1, e3]
 exact h _ (by omega)
theorem tst_1 (v : Nat) (hv : v < 4294967296) : bits .and .i64 (v : Int) 1 = 1 ↔ bitN v 0 = true := by
 have h1 : bits .and .i64 (v : Int) 1 = ((v &&& 1 : Nat) : Int) := b_and v 1 (by omega) (by decide)
 rw [h1, Nat.and_one_is_mod]; unfold bitN; simp; omega
theorem tst_10 (v : Nat) (hv : v < 4294967296) : bits .and .i64 (v : Int) 10 = 0 ↔ bitN v 1 = false /\ bitN v 3 = false := by
 have h1 : bits .and .i64 (v : Int) 10 = ((v &&& 10 : Nat) : Int) := b_and v 10 (by omega) (by decide)
 rw [h1, <- and_10]; omega
def Ent (w : World) (b1 b2 b3 n : Nat) (us su : Bool) (s : ByteArray) (A c : Nat) : Prop := isLf (ldS s A) -> Tru w b3 (A / 4) /\ Cov w b1 b2 n us su (ldS s A) (ldS s A / 1024) c
def Rds (w : World) (b1 b2 b3 n : Nat) (us su : Bool) (s : ByteArray) (p c i : Nat) : Prop := ∀ k, k < i -> p * 4096 + 4 * k + 4 <= s.size -> Ent w b1 b2 b3 n us su s (p * 4096 + 4 * k) c
theorem Rds.up {w w' : World} {b1 b2 b3 n : Nat} {us su : Bool} {s : ByteArray} {p c i : Nat} (h : Rds w b1 b2 b3 n us su s p c i) (hu : Up w w') (l1 : b1 < w.heap.size) (l2 : b2 < w.heap.size) (l3 : b3 < w.heap.size) : Rds w' b1 b2 b3 n us su s p c i :=
 fun k hk hs hl => ⟨hu _ _ l3 (h k hk hs hl).1, (h k hk hs hl).2.up hu l1 l2⟩
theorem Rds.next {w : World} {b1 b2 b3 n : Nat} {us su : Bool} {s : ByteArray} {p c i : Nat} (h : Rds w b1 b2 b3 n us su s p c i) (he : p * 4096 + 4 * i + 4 <= s.size -> Ent w b1 b2 b3 n us su s (p * 4096 + 4 * i) c) : Rds w b1 b2 b3 n us su s p c (i + 1) := fun k hk hs => by
 rcases Nat.lt_or_ge k i with h3 | h3
 . exact h k h3 hs
 . obtain rfl : k = i := by omega
   exact he hs
theorem Rds.end {w : World} {b1 b2 b3 n : Nat} {us su : Bool} {s : ByteArray} {p c i : Nat} (h : Rds w b1 b2 b3 n us su s p c i) (he : s.size < p * 4096 + 4 * i + 4) (j : Nat) : Rds w b1 b2 b3 n us su s p c j := fun k hk hs => h k (by omega) hs
set_option maxRecDepth 100000 in
theorem k_readL (tb b0 b1 b2 b3 b4 n m p : Nat) (s : ByteArray) (hs : s.size <= 65536) (hn : Hid (n = (s.size + 4095) / 4096)) (hm : Hid (m = s.size / 4 + 1)) (hp : p < n) (us su : Bool) (w : World) (hw : Hid (Tabs w tb b0 b1 b2 b3 b4 n m)) :
 Calls prog 112 #[.pointer (some ⟨tb, 0, none⟩), .string s, .int .i64 p, .bool false, .bool us, .bool su] w fun o w' => o = .returned (.tuple #[]) /\ Tabs w' tb b0 b1 b2 b3 b4 n m /\ Kept [b0, b1, b2, b3] w w' /\ Up w w' /\ Tru w' b0 p /\ Rds w' b1 b2 b3 n us su s p 1 1024 := by
 have hn20 : n <= 20 := by have := hn.out; omega
 have z0 := hw.out.hdr.lt
 have c0 := hw.out.hdr.cell 0 _ rfl
 obtain ⟨r0, e0⟩ := hw.out.s0.cell p hp
 have f0 := hw.out.s0.fro p
 have W0 := hide1 (hw.out.set b0 p true (by simp))
 have K0 : Hid (Kept [b0, b1, b2, b3] w (w.setCell ⟨b0, p, none⟩ (.bool true))) := zq140
 have I0 : Hid (Up w (w.setCell ⟨b0, p, none⟩ (.bool true)) /\ Tru (w.setCell ⟨b0, p, none⟩ (.bool true)) b0 p /\ Rds (w.setCell ⟨b0, p, none⟩ (.bool true)) b1 b2 b3 n us su s p 1 0) := hide1 ⟨Up.set w b0 p, World.cell?_setCell_same _ _ _ e0, fun k hk => absurd hk (by omega)⟩
 clear hw
 go_enter func112, ntmps112
 go_wp2_with fail
 go_loopw [12] (fun x wr => ∃ i : Nat, i <= 1024 /\ x = .int .i64 i /\ Hid (Tabs wr tb b0 b1 b2 b3 b4 n m) /\ Hid (Kept [b0, b1, b2, b3] w wr) /\ Hid (Up w wr /\ Tru wr b0 p /\ Rds wr b1 b2 b3 n us su s p 1 i)) (fun x _ => 1024 - (intOf x).toNat)
 case atStart => exact ⟨0, by omega, rfl, W0, K0, I0⟩
 case round =>
  obtain ⟨i, hi, rfl, hb, hk, hI⟩ := hrel
  clear W0 K0 I0 z0 c0 e0 f0
  by_cases hlt : i < 1024
  . have hlt' : decide ((i : Int) < 1024) = true := by simp; omega
    obtain ⟨A, hA⟩ : ∃ A : Nat, (p : Int) * 4096 + 4 * (i : Int) = A := ⟨p * 4096 + 4 * i, by omega⟩
    by_cases hs4 : A + 4 <= s.size
    . have hs4' : decide ((A : Int) + 4 > (s.size : Int)) = false := by simp; omega
      have hs4'' : decide ((s.size : Int) < (A : Int) + 4) = false := by simp; omega
      have AA := hide1 (show p * 4096 + 4 * i = A by omega)
      obtain ⟨v, ev⟩ := zn2 (ldS s A)
      have hv : v < 4294967296 := by rw [<- ev]; exact ldS_lt s A
      have LE := hide1 (k_leB s A hs4 (by omega) v ev wr)
      have EV := hide1 ev
      clear ev
      go_wp2_with fail
      refine LE.out.mono ?_
      rintro o w1 ⟨rfl, hk1⟩
      have B1 := hide1 (hb.out.kept hk1)
      have K1 : Hid (Kept [b0, b1, b2, b3] w w1) := hide1 (hk.out.trans (hk1.mono (by simp)))
      have I1 : Hid (Up w w1 /\ Tru w1 b0 p /\ Rds w1 b1 b2 b3 n us su s p 1 i) := hide1 ⟨hI.out.1.trans hk.out.size (Up.kept hk1), Up.kept hk1 _ _ hb.out.s0.lt hI.out.2.1, hI.out.2.2.up (Up.kept hk1) hb.out.s1.lt hb.out.s2.lt hb.out.s3.lt⟩
      clear hb hk hk1 LE hI
      obtain ⟨P, hP⟩ : ∃ P : Nat, (v : Int) / 1024 = P := ⟨v / 1024, by omega⟩
      have hP1 : P <= 4294967296 := by omega
      have z1 := B1.out.hdr.lt
      have c3 := B1.out.hdr.cell 3 _ rfl
      obtain ⟨L, l2, hLm⟩ : ∃ L : Nat, Int.tdiv (A : Int) 4 = L /\ L < m := ⟨A / 4, by rw [Int.tdiv_eq_ediv_of_nonneg (by omega)]; omega, by have := hm.out; omega⟩
      have l3 : L <= 70000 := by have := hm.out; omega
      obtain ⟨r3, e3⟩ := B1.out.s3.cell L hLm
      have f3 := B1.out.s3.fro L
      have B2 := hide1 (B1.out.set b3 L true (by simp))
      have K2 : Hid (Kept [b0, b1, b2, b3] w (w1.setCell ⟨b3, L, none⟩ (.bool true))) := hide1 (K1.out.setCell (.inl (by simp)) _)
      have K9 : Hid (Kept [b0, b1, b2, b3] w1 (w1.setCell ⟨b3, L, none⟩ (.bool true))) := zq140
      have CV := hide1 (k_cover tb b0 b1 b2 b3 b4 n m (by omega) 1 (by omega) P v (by omega) hv us su _ B2)
      have HP := hide1 (show v / 1024 = P by omega)
      have HL := hide1 (show A / 4 = L by rw [Int.tdiv_eq_ediv_of_nonneg (by omega)] at l2; omega)
      rcases beqC (bits .and .i64 (v : Int) 1) 1 with ⟨g1, g1'⟩ | ⟨g1, g1'⟩
      . rcases beqC (bits .and .i64 (v : Int) 10) 0 with ⟨g2, g2'⟩ | ⟨g2, g2'⟩
        . have I2 : Hid (Up w w1 /\ Tru w1 b0 p /\ Rds w1 b1 b2 b3 n us su s p 1 (i + 1)) := hide1 ⟨I1.out.1, I1.out.2.1, I1.out.2.2.next (fun _ hl => by rw [AA.out, EV.out] at hl; have := (tst_10 v hv).1 (eq_of_beq g2); unfold isLf at hl; rw [this.1, this.2] at hl; simp at hl)⟩
          exact zq399
        . clear B2
          go_wp2_with fail
          refine CV.out.mono ?_
          rintro o w3 ⟨rfl, hb3, hk3, hu3, hc3⟩
          have B3 := hide1 hb3
          have K3 := hide1 (K2.out.trans hk3)
          have U3 : Up w1 w3 := (Up.set w1 b3 L).trans K9.out.size hu3
          have I3 : Hid (Up w w3 /\ Tru w3 b0 p /\ Rds w3 b1 b2 b3 n us su s p 1 (i + 1)) := hide1 ⟨I1.out.1.trans K1.out.size U3, U3 _ _ B1.out.s0.lt I1.out.2.1, (I1.out.2.2.up U3 B1.out.s1.lt B1.out.s2.lt B1.out.s3.lt).next (fun _ hl => by
           rw [AA.out, EV.out, HP.out, HL.out]
           exact ⟨hu3 _ _ (Nat.lt_of_lt_of_le B1.out.s3.lt K9.out.size) (World.cell?_setCell_same _ _ _ e3), hc3⟩)⟩
          clear hu3 hc3 U3 I1
          clear hb3 hk3 K2 CV B1 K1 c3 e3 f3
          go_wp2_with fail
          go_roundw
          case rel => exact ⟨i + 1, by omega, by go_num, B3, K3, I3⟩
          case measure => exact zq186
      . have I2 : Hid (Up w w1 /\ Tru w1 b0 p /\ Rds w1 b1 b2 b3 n us su s p 1 (i + 1)) := hide1 ⟨I1.out.1, I1.out.2.1, I1.out.2.2.next (fun _ hl => by rw [AA.out, EV.out] at hl; exact absurd ((tst_1 v hv).2 hl.1) (by simpa using g1))⟩
        exact zq399
    . have hs4' : decide ((A : Int) + 4 > (s.size : Int)) = true := by simp; omega
      have hs4'' : decide ((s.size : Int) < (A : Int) + 4) = true := by simp; omega
      go_wp2_with fail
      (try simp only [Exit.inBlock, Exit.then])
      refine bodyPost_ret (results_none rfl _ _ _) rfl ?_
      exact ⟨rfl, hb.out, hk.out, hI.out.1, hI.out.2.1, hI.out.2.2.end (by omega) _⟩
  . have hlt' : decide ((i : Int) < 1024) = false := by simp; omega
    go_wp2_with fail
    obtain rfl : i = 1024 := by omega
    go_end0
    exact ⟨rfl, hb.out, hk.out, hI.out⟩
end
section
attribute [local go_sem ↓] Go.wp_at_zero Go.wp_at_succ
variable {w0 w w' : World} {tb b0 b1 b2 b3 b4 n m : Nat} {us su : Bool} {s : ByteArray} {p i : Nat}
def isPt (e : Nat) : Prop := bitN e 0 = true /\ bitN e 1 = false /\ bitN e 3 = false
def Low (w : World) (b0 b1 b2 b3 b4 n : Nat) (us su : Bool) (s : ByteArray) : Prop := ∀ q, q < n -> Tru w b4 q -> Tru w b0 q /\ Rds w b1 b2 b3 n us su s q 1 1024
structure RI (w0 w : World) (tb b0 b1 b2 b3 b4 n m : Nat) (us su : Bool) (s : ByteArray) (p i : Nat) : Prop where
 ta : Tabs w tb b0 b1 b2 b3 b4 n m
 kp : Kept [b0, b1, b2, b3, b4] w0 w
 up : Up w0 w
 t0 : Tru w b0 p
 lo : Low w b0 b1 b2 b3 b4 n us su s
 rd : Rds w b1 b2 b3 n us su s p 1024 i
 pt : ∀ k, k < i -> p * 4096 + 4 * k + 4 <= s.size -> isPt (ldS s (p * 4096 + 4 * k)) -> ∀ q, ldS s (p * 4096 + 4 * k) / 1024 = q + 524288 -> q < n -> Tru w b4 q
variable {w0 w w' : World} {tb b0 b1 b2 b3 b4 n m : Nat} {us su : Bool} {s : ByteArray} {p i : Nat}
theorem RI.move (h : RI w0 w tb b0 b1 b2 b3 b4 n m us su s p i) (ht : Tabs w' tb b0 b1 b2 b3 b4 n m) (hk : Kept [b0, b1, b2, b3, b4] w w') (hu : Up w w') (h4 : ∀ q, q < n -> Tru w' b4 q -> Tru w b4 q \/ Tru w' b0 q /\ Rds w' b1 b2 b3 n us su s q 1 1024) : RI w0 w' tb b0 b1 b2 b3 b4 n m us su s p i :=
 have a := h.ta
 ⟨ht, h.kp.trans hk, h.up.trans h.kp.size hu, hu _ _ a.s0.lt h.t0, fun q hq h5 => (h4 q hq h5).elim (fun h6 => ⟨hu _ _ a.s0.lt (h.lo q hq h6).1, (h.lo q hq h6).2.up hu a.s1.lt a.s2.lt a.s3.lt⟩) id, h.rd.up hu a.s1.lt a.s2.lt a.s3.lt, fun k hk h1 h2 q h3 h5 => hu _ _ a.s4.lt (h.pt k hk h1 h2 q h3 h5)⟩
theorem RI.kept (h : RI w0 w tb b0 b1 b2 b3 b4 n m us su s p i) (hk : Kept [] w w') : RI w0 w' tb b0 b1 b2 b3 b4 n m us su s p i :=
 h.move (h.ta.kept hk) (hk.mono (by simp)) (Up.kept hk) (fun q _ h5 => .inl ((hk.cell (p := ⟨b4, q, none⟩) h.ta.s4.lt (by simp)).symm.trans h5))
theorem RI.four (h : RI w0 w tb b0 b1 b2 b3 b4 n m us su s p i) (ht : Tabs w' tb b0 b1 b2 b3 b4 n m) (hk : Kept [b0, b1, b2, b3] w w') (hu : Up w w') : RI w0 w' tb b0 b1 b2 b3 b4 n m us su s p i :=
 h.move ht (hk.mono (by simp)) hu (fun q _ h5 => .inl ((hk.cell (p := ⟨b4, q, none⟩) h.ta.s4.lt h.ta.n4).symm.trans h5))
theorem RI.next (h : RI w0 w tb b0 b1 b2 b3 b4 n m us su s p i) {A v : Nat} (hA : p * 4096 + 4 * i = A) (hv : ldS s A = v) (h1 : isLf v -> Tru w b3 (A / 4) /\ Cov w b1 b2 n us su v (v / 1024) 1024) (h2 : isPt v -> ∀ q, v / 1024 = q + 524288 -> q < n -> Tru w b4 q) : RI w0 w tb b0 b1 b2 b3 b4 n m us su s p (i + 1) := by
 refine ⟨h.ta, h.kp, h.up, h.t0, h.lo, h.rd.next (fun _ => by unfold Ent; rw [hA, hv]; exact h1), fun k hk q1 q2 => ?_⟩
 rcases Nat.lt_or_ge k i with h3 | h3
 . exact h.pt k h3 q1 q2
 . obtain rfl : k = i := by omega
   rw [hA, hv] at q2 |-
   exact h2 q2
theorem RI.end (h : RI w0 w tb b0 b1 b2 b3 b4 n m us su s p i) (he : s.size < p * 4096 + 4 * i + 4) (j : Nat) : RI w0 w tb b0 b1 b2 b3 b4 n m us su s p j := ⟨h.ta, h.kp, h.up, h.t0, h.lo, h.rd.end he j, fun k hk q1 => h.pt k (by omega) q1⟩
set_option maxRecDepth 100000 in
theorem k_readR (tb b0 b1 b2 b3 b4 n m p : Nat) (s : ByteArray) (hs : s.size <= 65536) (hn : Hid (n = (s.size + 4095) / 4096)) (hm : Hid (m = s.size / 4 + 1)) (hp : p < n) (us su : Bool) (w : World) (hw : Hid (Tabs w tb b0 b1 b2 b3 b4 n m)) (hl : Hid (∀ q, q < n -> ¬ Tru w b4 q)) :
 Calls prog 112 #[.pointer (some ⟨tb, 0, none⟩), .string s, .int .i64 p, .bool true, .bool us, .bool su] w fun o w' => o = .returned (.tuple #[]) /\ RI w w' tb b0 b1 b2 b3 b4 n m us su s p 1024 := by
 have hn20 : n <= 20 := by have := hn.out; omega
 have z0 := hw.out.hdr.lt
 have c0 := hw.out.hdr.cell 0 _ rfl
 obtain ⟨r0, e0⟩ := hw.out.s0.cell p hp
 have f0 := hw.out.s0.fro p
 have K0 : Hid (Kept [b0, b1, b2, b3] w (w.setCell ⟨b0, p, none⟩ (.bool true))) := zq140
 have I0 : Hid (RI w (w.setCell ⟨b0, p, none⟩ (.bool true)) tb b0 b1 b2 b3 b4 n m us su s p 0) := hide1 ⟨hw.out.set b0 p true (by simp), K0.out.mono (by simp), Up.set w b0 p, World.cell?_setCell_same _ _ _ e0, fun q hq h => absurd ((K0.out.cell hw.out.s4.lt hw.out.n4).symm.trans h) (hl.out q hq), fun k hk => absurd hk (by omega), fun k hk => absurd hk (by omega)⟩
 clear hw hl K0
 go_enter func112, ntmps112
 go_wp2_with fail
 go_loopw [12] (fun x wr => ∃ i : Nat, i <= 1024 /\ x = .int .i64 i /\ Hid (RI w wr tb b0 b1 b2 b3 b4 n m us su s p i)) (fun x _ => 1024 - (intOf x).toNat)
 case atStart => exact ⟨0, by omega, rfl, I0⟩
 case round =>
  obtain ⟨i, hi, rfl, hI⟩ := hrel
  clear I0 z0 c0 e0 f0
  by_cases hlt : i < 1024
  . have hlt' : decide ((i : Int) < 1024) = true := by simp; omega
    obtain ⟨A, hA⟩ : ∃ A : Nat, (p : Int) * 4096 + 4 * (i : Int) = A := ⟨p * 4096 + 4 * i, by omega⟩
    by_cases hs4 : A + 4 <= s.size
    . have hs4' : decide ((A : Int) + 4 > (s.size : Int)) = false := by simp; omega
      have hs4'' : decide ((s.size : Int) < (A : Int) + 4) = false := by simp; omega
      have AA := hide1 (show p * 4096 + 4 * i = A by omega)
      obtain ⟨v, ev⟩ := zn2 (ldS s A)
      have hv : v < 4294967296 := by rw [<- ev]; exact ldS_lt s A
      have LE := hide1 (k_leB s A hs4 (by omega) v ev wr)
      have EV := hide1 ev
      clear ev
      go_wp2_with fail
      refine LE.out.mono ?_
      rintro o w1 ⟨rfl, hk1⟩
      have J1 := hide1 (hI.out.kept hk1)
      clear hI hk1 LE
      obtain ⟨P, hP⟩ : ∃ P : Nat, (v : Int) / 1024 = P := ⟨v / 1024, by omega⟩
      have hP1 : P <= 4294967296 := by omega
      have HP := hide1 (show v / 1024 = P by omega)
      have z1 := J1.out.ta.hdr.lt
      rcases beqC (bits .and .i64 (v : Int) 1) 1 with ⟨g1, g1'⟩ | ⟨g1, g1'⟩
      . rcases beqC (bits .and .i64 (v : Int) 10) 0 with ⟨g2, g2'⟩ | ⟨g2, g2'⟩
        . have NL : Hid (¬ isLf v) := hide1 (fun hl => by have := (tst_10 v hv).1 (eq_of_beq g2); unfold isLf at hl; rw [this.1, this.2] at hl; simp at hl)
          by_cases h0 : 0 <= (P : Int) - 524288
          . obtain ⟨q, hq⟩ : ∃ q : Nat, (P : Int) - 524288 = q := ⟨P - 524288, by omega⟩
            by_cases h1 : q < n
            . have h1' : decide ((q : Int) < (n : Int)) = true := by simp; omega
              have c4 := J1.out.ta.hdr.cell 4 _ rfl
              obtain ⟨r4, e4⟩ := J1.out.ta.s4.cell q h1
              have f4 := J1.out.ta.s4.fro q
              cases r4
              . have B5 := hide1 (J1.out.ta.set b4 q true (by simp))
                have K5 : Hid (Kept [b0, b1, b2, b3, b4] w1 (w1.setCell ⟨b4, q, none⟩ (.bool true))) := zq140
                have T5 : Hid (Tru (w1.setCell ⟨b4, q, none⟩ (.bool true)) b4 q) := hide1 (World.cell?_setCell_same _ _ _ e4)
                have RD := hide1 (k_readL tb b0 b1 b2 b3 b4 n m q s hs hn hm h1 us su _ B5)
                have n1 : ¬ tb = b4 := fun h => J1.out.ta.ne (by simp [h])
                have n2 : ¬ b4 = tb := fun h => n1 h.symm
                go_wp2_with fail
                refine RD.out.mono ?_
                rintro o w5 ⟨rfl, hb5, hk5, hu5, ht5, hr5⟩
                have U5 : Up w1 w5 := (Up.set w1 b4 q).trans K5.out.size hu5
                have I6 := hide1 (J1.out.move hb5 (K5.out.trans (hk5.mono (by simp))) U5 (fun q' _ h6 => by
                 by_cases e : q' = q
                 . rw [e]; exact .inr ⟨ht5, hr5⟩
                 . have h7 : Tru (w1.setCell ⟨b4, q, none⟩ (.bool true)) b4 q' := (hk5.cell (p := ⟨b4, q', none⟩) B5.out.s4.lt J1.out.ta.n4).symm.trans h6
                   unfold Tru at h7
                   rw [World.cell?_setCell_other _ _ _ _ (by simp)] at h7
                   exact .inl h7))
                have I7 := hide1 (I6.out.next AA.out EV.out (fun h => absurd h NL.out) (fun _ q' e1 _ => by
                 have : q' = q := by rw [HP.out] at e1; omega
                 rw [this]
                 exact hu5 _ _ B5.out.s4.lt T5.out))
                clear hb5 hk5 hu5 ht5 hr5 K5 RD U5 I6 T5 B5 J1
                exact zq400
              . have I7 := hide1 (J1.out.next AA.out EV.out (fun h => absurd h NL.out) (fun _ q' e1 _ => by
                 have : q' = q := by rw [HP.out] at e1; omega
                 rw [this]; exact e4))
                exact zq400
            . have h1' : decide ((q : Int) < (n : Int)) = false := by simp; omega
              have c4 := J1.out.ta.hdr.cell 4 _ rfl
              exact zq401
          . have h0' : decide (0 <= (P : Int) - 524288) = false := by simp; omega
            exact zq401
        . have c3 := J1.out.ta.hdr.cell 3 _ rfl
          obtain ⟨L, l2, hLm⟩ : ∃ L : Nat, Int.tdiv (A : Int) 4 = L /\ L < m := ⟨A / 4, by rw [Int.tdiv_eq_ediv_of_nonneg (by omega)]; omega, by have := hm.out; omega⟩
          have l3 : L <= 70000 := by have := hm.out; omega
          have HL := hide1 (show A / 4 = L by rw [Int.tdiv_eq_ediv_of_nonneg (by omega)] at l2; omega)
          obtain ⟨r3, e3⟩ := J1.out.ta.s3.cell L hLm
          have f3 := J1.out.ta.s3.fro L
          have B2 := hide1 (J1.out.ta.set b3 L true (by simp))
          have K9 : Hid (Kept [b0, b1, b2, b3] w1 (w1.setCell ⟨b3, L, none⟩ (.bool true))) := zq140
          have CV := hide1 (k_cover tb b0 b1 b2 b3 b4 n m (by omega) 1024 (by omega) P v (by omega) hv us su _ B2)
          go_wp2_with fail
          refine CV.out.mono ?_
          rintro o w3 ⟨rfl, hb3, hk3, hu3, hc3⟩
          have U3 : Up w1 w3 := (Up.set w1 b3 L).trans K9.out.size hu3
          have I3 := hide1 (J1.out.four hb3 (K9.out.trans hk3) U3)
          have I7 := hide1 (I3.out.next AA.out EV.out (fun _ => by
           rw [HL.out, HP.out]
           exact ⟨hu3 _ _ (Nat.lt_of_lt_of_le J1.out.ta.s3.lt K9.out.size) (World.cell?_setCell_same _ _ _ e3), hc3⟩) (fun h => absurd ((tst_10 v hv).2 h.2) (by simpa using g2)))
          clear hb3 hk3 hu3 hc3 U3 I3 CV B2 K9 c3 e3 f3 J1
          exact zq400
      . have I7 := hide1 (J1.out.next AA.out EV.out (fun h => absurd ((tst_1 v hv).2 h.1) (by simpa using g1)) (fun h => absurd ((tst_1 v hv).2 h.1) (by simpa using g1)))
        exact zq400
    . have hs4' : decide ((A : Int) + 4 > (s.size : Int)) = true := by simp; omega
      have hs4'' : decide ((s.size : Int) < (A : Int) + 4) = true := by simp; omega
      go_wp2_with fail
      (try simp only [Exit.inBlock, Exit.then])
      refine bodyPost_ret (results_none rfl _ _ _) rfl ?_
      exact ⟨rfl, hI.out.end (by omega) _⟩
  . have hlt' : decide ((i : Int) < 1024) = false := by simp; omega
    obtain rfl : i = 1024 := by omega
    go_wp2_with fail
    go_end0
    exact ⟨rfl, hI.out⟩
end
end Go.Proofs.YtmlgonbhoknoiabGreatDoor
