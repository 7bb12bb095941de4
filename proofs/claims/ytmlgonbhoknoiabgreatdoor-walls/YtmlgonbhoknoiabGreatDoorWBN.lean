import Derived.Test.YtmlgonbhoknoiabGreatDoorWBH
set_option maxHeartbeats 8000000
set_option linter.all false
namespace Go.Proofs.YtmlgonbhoknoiabGreatDoor
open Go.RowKit Go.Proofs.Tryz
section
variable {A T W F : Nat -> Prop} {C : CsrS} {o : Nat} {B : BusS}
def byB (o : Nat) (v : UInt8) (B : BusS) : BusS := { B with ram := B.ram.set o v }
def byX (o : Nat) (v : UInt8) (X : XS) : XS := X.withB (byB o v X.b)
def byP {α : Type} (o : Nat) (v : UInt8) (t : α × BusS) : α × BusS := (t.1, byB o v t.2)
def byQ {α : Type} (o : Nat) (v : UInt8) (t : α × XS) : α × XS := (t.1, byX o v t.2)
theorem by_len (o : Nat) (v : UInt8) (B : BusS) : (byB o v B).ram.length = B.ram.length := List.length_set
theorem rd_by (o : Nat) (v : UInt8) (B : BusS) (p n : Nat) (h : o < p \/ p + n <= o) : rdRam (byB o v B) p n = rdRam B p n := by
 unfold rdRam byB
 dsimp only
 congr 1
 apply List.ext_getElem?
 intro i
 rw [List.getElem?_take, List.getElem?_take]
 by_cases hi : i < n
 . rw [if_pos hi, if_pos hi, List.getElem?_drop, List.getElem?_drop, List.getElem?_set_ne (by omega)]
 . rw [if_neg hi, if_neg hi]
theorem st_by (o : Nat) (v : UInt8) : ∀ (n : Nat) (r : List UInt8) (p x : Nat), (o < p \/ p + n <= o) -> stN (r.set o v) p n x = (stN r p n x).set o v
 | 0, r, p, x, h => rfl
 | n + 1, r, p, x, h => by
  simp only [stN]
  rw [List.set_comm _ _ (by omega), st_by o v n _ _ _ (by omega)]
def Off (o pa : Nat) : Prop := pa / 4096 ≠ (o + 2147483648) / 4096
theorem Off.at {o pa n : Nat} (h : Off o pa) (h1 : 2147483648 <= pa) (h2 : pa % 4096 + n <= 4096) : o < pa - 2147483648 \/ pa - 2147483648 + n <= o := by unfold Off at h; omega
theorem ent_by {o : Nat} (v : UInt8) (B : BusS) {a : Nat} (h : Off o a) (hh : holdsD (a : Nat) 4 B.ram.length = true) (al : a % 4 = 0) : entE (byB o v B) a = entE B a := rd_by o v B _ 4 (h.at (holdsD_at hh).1 (by omega))
theorem leaf_by {o : Nat} (v : UInt8) (B : BusS) (C : CsrS) {a : Nat} (e lvl va k m : Nat) (h : Off o a) (hh : holdsD (a : Nat) 4 B.ram.length = true) (al : a % 4 = 0) : leafD (byB o v B) C e a lvl va k m = byP o v (leafD B C e a lvl va k m) := by
 unfold leafD
 split
 . rfl
 split
 . rfl
 unfold byP
 dsimp only
 congr 1
 split
 . rfl
 . unfold byB
   dsimp only
   rw [st_by o v _ _ _ _ (h.at (holdsD_at hh).1 (by omega))]
theorem walk0_by {o : Nat} (v : UInt8) (B : BusS) (C : CsrS) (P va k m : Nat) (h : P ≠ (o + 2147483648) / 4096) : walk0 (byB o v B) C (P * 4096) va k m = byP o v (walk0 B C (P * 4096) va k m) := by
 have p := ent_pg P va 0
 have ho : Off o (entA (P * 4096) va 0) := by unfold Off; rw [p.1]; exact h
 unfold walk0
 rw [by_len]
 split
 . rfl
 next hh =>
 have hh' : holdsD (entA (P * 4096) va 0 : Nat) 4 B.ram.length = true := by simpa using hh
 rw [ent_by v B ho hh' p.2]
 split
 . rfl
 split
 . rfl
 exact leaf_by v B C _ _ _ _ _ ho hh' p.2
theorem walk1_by {T A W F : Nat -> Prop} {C : CsrS} {B : BusS} (h : Clo T A W F C B) {o : Nat} (v : UInt8) (hT : ¬ T ((o + 2147483648) / 4096)) (va k m : Nat) : walk1 (byB o v B) C (C.satp % 4194304 * 4096) va k m = byP o v (walk1 B C (C.satp % 4194304 * 4096) va k m) := by
 have p := ent_pg (C.satp % 4194304) va 1
 have ho : Off o (entA (C.satp % 4194304 * 4096) va 1) := by unfold Off; rw [p.1]; intro e; rw [<- e] at hT; exact hT h.root
 unfold walk1
 rw [by_len]
 split
 . rfl
 next hh =>
 have hh' : holdsD (entA (C.satp % 4194304 * 4096) va 1 : Nat) 4 B.ram.length = true := by simpa using hh
 rw [ent_by v B ho hh' p.2]
 split
 . rfl
 next h0 =>
 split
 . next h3 =>
   split
   . rfl
   have b0 : bitN (entE B (entA (C.satp % 4194304 * 4096) va 1)) 0 = true := by
    cases hb : bitN (entE B (entA (C.satp % 4194304 * 4096) va 1)) 0
    . exact absurd (.inl hb) h0
    . rfl
   refine walk0_by v B C _ _ _ _ (fun e => ?_)
   have := (h.pt _ _ ⟨p.1, p.2, hh', rfl⟩ b0 h3.1 h3.2).1
   rw [e] at this
   exact hT this
 . exact leaf_by v B C _ _ _ _ _ ho hh' p.2
structure Sec (A T W F : Nat -> Prop) (C : CsrS) (o : Nat) (B : BusS) : Prop where
 clo : Clo T A W F C B
 pg : Pgd C
 a : ¬ A ((o + 2147483648) / 4096)
 t : ¬ T ((o + 2147483648) / 4096)
variable {A T W F : Nat -> Prop} {C : CsrS} {o : Nat} {B : BusS}
theorem Sec.tr (h : Sec A T W F C o B) (v : UInt8) (va k : Nat) : trD (byB o v B) C va k = byP o v (trD B C va k) /\ Sec A T W F C o (trD B C va k).2 /\ ((trD B C va k).1.2 = 0 -> Off o (trD B C va k).1.1 /\ (trD B C va k).1.1 % 4096 = va % 4096) := by
 have q := tr_ok' h.clo h.pg va k
 refine ⟨?_, ⟨q.clo, h.pg, h.a, h.t⟩, fun e => ⟨fun e' => ?_, (q.pg e).2.2⟩⟩
 . unfold trD
   rw [if_pos (h.pg.pg k).1, if_pos (h.pg.pg k).1]
   exact walk1_by h.clo v h.t _ _ _
 . have := (q.pg e).1
   rw [e'] at this
   exact h.a this
theorem Sec.half (h : Sec A T W F C o B) (v : UInt8) (va : Nat) (hv : va % 2 = 0) : halfD (byB o v B) C va = byP o v (halfD B C va) /\ Sec A T W F C o (halfD B C va).2 := by
 obtain ⟨e, hs, hp⟩ := h.tr v va 0
 unfold halfD
 rw [e]
 obtain ⟨t, ht⟩ := zn1 (trD B C va 0)
 rw [<- ht] at hs hp |-
 unfold halfP byP
 dsimp only
 rw [by_len]
 split
 . next h0 =>
   split
   . next h1 =>
     have := hp h0
     rw [rd_by o v t.2 _ 2 (this.1.at (holds_at (n := 2) h1).1 (by omega))]
     exact ⟨rfl, hs⟩
   . exact ⟨rfl, hs⟩
 . exact ⟨rfl, hs⟩
theorem Sec.fetch (h : Sec A T W F C o B) (v : UInt8) (pc : Nat) (hv : pc % 2 = 0) : fetchD (byB o v B) C pc = byP o v (fetchD B C pc) /\ Sec A T W F C o (fetchD B C pc).2 := by
 obtain ⟨e1, s1⟩ := h.half v pc hv
 obtain ⟨e2, s2⟩ := s1.half v ((pc + 2) % 4294967296) (by omega)
 have e1' : halfD (byB o v B) C pc = ((halfD B C pc).1, byB o v (halfD B C pc).2) := e1
 have e2' : halfD (byB o v (halfD B C pc).2) C ((pc + 2) % 4294967296) = ((halfD (halfD B C pc).2 C ((pc + 2) % 4294967296)).1, byB o v (halfD (halfD B C pc).2 C ((pc + 2) % 4294967296)).2) := e2
 unfold fetchD
 rw [e1']
 dsimp only
 rw [e2']
 dsimp only
 split
 . split
   . split
     . exact ⟨rfl, s2⟩
     . exact ⟨rfl, s2⟩
   . exact ⟨rfl, s1⟩
 . exact ⟨rfl, s1⟩
structure Por (o pa n : Nat) : Prop where
 off : Off o pa
 in' : pa % 4096 + n <= 4096
theorem Sec.reach (h : Sec A T W F C o B) (v : UInt8) (va n k : Nat) (hn : n <= 4) (hn1 : 1 <= n) : reachD (byB o v B) C va n k = byP o v (reachD B C va n k) /\ ((reachD B C va n k).1.fault = 0 -> Por o (reachD B C va n k).1.pa1 (reachD B C va n k).1.n1 /\ (0 < (reachD B C va n k).1.n2 -> Por o (reachD B C va n k).1.pa2 (reachD B C va n k).1.n2)) := by
 obtain ⟨e1, s1, p1⟩ := h.tr v va k
 obtain ⟨e2, s2, p2⟩ := s1.tr v ((va + roomD va n) % 4294967296) k
 have r1 : roomD va n <= 4096 - va % 4096 /\ roomD va n <= n /\ (roomD va n < n -> roomD va n = 4096 - va % 4096) := zq6
 unfold reachD
 rw [e1]
 obtain ⟨r, hr⟩ := zn1 (roomD va n)
 rw [<- hr] at r1 e2 s2 p2 |-
 obtain ⟨t, ht⟩ := zn1 (trD B C va k)
 rw [<- ht] at e1 s1 p1 e2 s2 p2 |-
 unfold reach1 byP
 dsimp only
 rw [by_len, e2]
 obtain ⟨u, hu⟩ := zn1 (trD t.2 C ((va + r) % 4294967296) k)
 rw [<- hu] at e2 s2 p2 |-
 split
 . next h0 =>
   have q1 := p1 h0
   split
   . split
     . next hlt =>
       unfold reach2 byP
       dsimp only
       rw [by_len]
       split
       . next h2 =>
         have q2 := p2 h2
         split
         . exact ⟨rfl, fun _ => ⟨⟨q1.1, by dsimp only; omega⟩, fun _ => ⟨q2.1, by dsimp only; omega⟩⟩⟩
         . exact ⟨rfl, fun f => absurd f zq517⟩
       . next h2 => exact ⟨rfl, fun f => absurd f h2⟩
     . exact ⟨rfl, fun _ => ⟨⟨q1.1, by dsimp only; omega⟩, fun f => absurd f zq517⟩⟩
   . exact ⟨rfl, fun f => absurd f zq517⟩
 . next h0 => exact ⟨rfl, fun f => absurd f h0⟩
theorem readV_by (o : Nat) (v : UInt8) (B : BusS) (pa : Int) : readV (byB o v B) pa = byP o v (readV B pa) := by
 unfold readV byB byP
 dsimp only
 exact zq200
theorem writeV_by (o : Nat) (v : UInt8) (B : BusS) (pa : Int) (x : Nat) : writeV (byB o v B) pa x = byB o v (writeV B pa x) := by
 unfold writeV byB
 dsimp only
 exact zq200
theorem Por.read {pa n : Nat} (h : Por o pa n) (v : UInt8) (B : BusS) : readD (byB o v B) pa n = byP o v (readD B pa n) := by
 unfold readD
 rw [by_len]
 split
 . next hh =>
   have := holds_at hh
   rw [rd_by o v B _ _ (by have := h.off.at this.1 h.in'; omega)]
   rfl
 . split
   . exact readV_by o v B pa
   . rfl
theorem Por.write {pa n : Nat} (h : Por o pa n) (v : UInt8) (B : BusS) (x : Nat) : writeD (byB o v B) pa n x = byB o v (writeD B pa n x) := by
 unfold writeD
 rw [by_len]
 split
 . next hh =>
   have := holds_at hh
   unfold byB
   dsimp only
   rw [st_by o v _ _ _ _ (by have := h.off.at this.1 h.in'; omega)]
 . split
   . exact writeV_by o v B pa x
   . rfl
theorem load_by (v : UInt8) (B : BusS) (s : Spn) (h1 : Por o s.pa1 s.n1) (h2 : 0 < s.n2 -> Por o s.pa2 s.n2) : loadD (byB o v B) s = byP o v (loadD B s) := by
 unfold loadD
 rw [h1.read]
 split
 . next h => unfold byP; dsimp only; rw [(h2 h).read]; rfl
 . rfl
theorem store_by (v : UInt8) (B : BusS) (s : Spn) (x : Nat) (h1 : Por o s.pa1 s.n1) (h2 : 0 < s.n2 -> Por o s.pa2 s.n2) : storeD (byB o v B) s x = byB o v (storeD B s x) := by
 unfold storeD
 rw [h1.write]
 split
 . next h => rw [(h2 h).write]
 . rfl
end
section
variable {A T W F : Nat -> Prop} {o : Nat} {X : XS}
theorem setXR_by (o : Nat) (v : UInt8) (X : XS) (d x : Nat) : setXR (byX o v X) d x = byX o v (setXR X d x) := by
 unfold setXR; split <;> rfl
theorem ld_by (h : Sec A T W F (xC X) o X.b) (v : UInt8) (i : NI) (hn : nD i.op <= 4) (hn1 : 1 <= nD i.op) : ldX (byX o v X) i = byQ o v (ldX X i) := by
 obtain ⟨e, p⟩ := h.reach v (vaD X i) (nD i.op) 1 hn hn1
 have e' : ldX (byX o v X) i = ldF (byX o v X) i (reachD (byB o v X.b) (xC X) (vaD X i) (nD i.op) 1) := rfl
 rw [e', e]
 unfold ldX
 obtain ⟨S, hS⟩ := zn1 (reachD X.b (xC X) (vaD X i) (nD i.op) 1)
 rw [<- hS] at p |-
 unfold ldF byP
 dsimp only
 split
 . next f =>
   rw [load_by v S.2 S.1 (p f).1 (p f).2]
   unfold byP byQ
   dsimp only
   congr 1
   exact setXR_by o v (X.withB (loadD S.2 S.1).2) _ _
 . rfl
theorem stX_by (h : Sec A T W F (xC X) o X.b) (v : UInt8) (i : NI) (hn : nD i.op <= 4) (hn1 : 1 <= nD i.op) : stX (byX o v X) i = byQ o v (stX X i) := by
 obtain ⟨e, p⟩ := h.reach v (vaD X i) (nD i.op) 2 hn hn1
 have e' : stX (byX o v X) i = stF (byX o v X) i (reachD (byB o v X.b) (xC X) (vaD X i) (nD i.op) 2) := rfl
 rw [e', e]
 unfold stX
 obtain ⟨S, hS⟩ := zn1 (reachD X.b (xC X) (vaD X i) (nD i.op) 2)
 rw [<- hS] at p |-
 unfold stF byP
 dsimp only
 split
 . next f =>
   have ex : (byX o v X).x = X.x := rfl
   rw [ex, store_by v S.2 S.1 _ (p f).1 (p f).2]
   rfl
 . rfl
theorem at_by (h : Sec A T W F (xC X) o X.b) (v : UInt8) (i : NI) : atX (byX o v X) i = byQ o v (atX X i) := by
 unfold atX
 have ex : (byX o v X).x = X.x := rfl
 rw [ex]
 split
 . next hal =>
   obtain ⟨e, s, p⟩ := h.tr v (X.x.getD i.rs1 0) (kD i.op)
   have e1 : wordAtD (byX o v X).b (xC (byX o v X)) (X.x.getD i.rs1 0) (kD i.op) = wordAtP (trD (byB o v X.b) (xC X) (X.x.getD i.rs1 0) (kD i.op)) := rfl
   rw [e1, e]
   unfold wordAtD
   obtain ⟨t, ht⟩ := zn1 (trD X.b (xC X) (X.x.getD i.rs1 0) (kD i.op))
   rw [<- ht] at p s |-
   unfold wordAtP byP
   dsimp only
   rw [by_len]
   split
   . next h0 =>
     have q := p h0
     split
     . next hh =>
       unfold atF byQ
       dsimp only
       rw [if_pos h0, if_pos h0]
       dsimp only
       congr 1
       have ho := q.1.at (n := 4) (holdsD_at hh).1 (by omega)
       have hb : ∀ Y : XS, rdRam (byX o v Y).b (t.1.1 - 2147483648) 4 = rdRam Y.b (t.1.1 - 2147483648) 4 := fun Y => rd_by o v Y.b _ 4 ho
       have hst : ∀ (Y : XS) (z : Nat), setRam (byX o v Y) (stN (byX o v Y).b.ram (t.1.1 - 2147483648) 4 z) = byX o v (setRam Y (stN Y.b.ram (t.1.1 - 2147483648) 4 z)) := by
        intro Y z
        have : (byX o v Y).b.ram = Y.b.ram.set o v := rfl
        rw [this, st_by o v _ _ _ _ ho]; rfl
       have eq : (byX o v X).withB (byB o v t.2) = byX o v (X.withB t.2) := rfl
       rw [eq]
       obtain ⟨Y, hY⟩ := zn1 (X.withB t.2)
       rw [<- hY]
       have ex : (byX o v Y).x = Y.x := rfl
       unfold atG
       split
       . unfold lrX
         rw [hb, setXR_by]; rfl
       . split
         . unfold scX
           have es : scB (byX o v Y) t.1.1 = scB Y t.1.1 := rfl
           rw [es]
           cases scB Y t.1.1
           . dsimp only [cond]
             rw [ex, hst, setXR_by]; rfl
           . dsimp only [cond]
             rw [setXR_by]; rfl
         . unfold amoX
           rw [hb, ex, hst, setXR_by]
     . rfl
   . next h0 =>
     unfold atF byQ
     dsimp only
     rw [if_neg h0, if_neg h0]
     rfl
 . rfl
theorem ite_by {c : Prop} [Decidable c] {o : Nat} {v : UInt8} {X Y X' Y' : XS} (h1 : X' = byX o v X) (h2 : Y' = byX o v Y) : (if c then X' else Y') = byX o v (if c then X else Y) := by
 subst h1 h2; split <;> rfl
theorem super_by (o : Nat) (v : UInt8) (X : XS) (n : Int) (x : Nat) : writeSuperD (byX o v X) n x = byX o v (writeSuperD X n x) := by
 unfold writeSuperD
 exact zq419
theorem mach_by (o : Nat) (v : UInt8) (X : XS) (n : Int) (x : Nat) : writeMachD (byX o v X) n x = byX o v (writeMachD X n x) := by
 unfold writeMachD
 exact zq419
theorem counter_by (o : Nat) (v : UInt8) (X : XS) (n : Int) (x : Nat) : writeCounterD (byX o v X) n x = byX o v (writeCounterD X n x) := by
 unfold writeCounterD
 exact zq419
theorem ccr_by (o : Nat) (v : UInt8) (X : XS) (i : NI) : ccrX (byX o v X) i = byX o v (ccrX X i) := by
 unfold ccrX
 have e1 : rcsD (byX o v X) i.im = rcsD X i.im := rfl
 have e2 : (byX o v X).c.mip = X.c.mip := rfl
 have e3 : opdD (byX o v X) i = opdD X i := rfl
 rw [e1, e2, e3, setXR_by]
 split
 . unfold wcsX
   split
   . exact super_by _ _ _ _ _
   . split
     . exact mach_by _ _ _ _ _
     . exact counter_by _ _ _ _ _
 . rfl
theorem prv_by (o : Nat) (v : UInt8) (X : XS) (op : Int) : prvX (byX o v X) op = byX o v (prvX X op) := by
 unfold prvX
 exact zq419
theorem nD_in (op : Int) : nD op <= 4 /\ 1 <= nD op := by
 unfold nD xaccD
 repeat' split
 all_goals simp
theorem cro_by (h : Sec A T W F (xC X) o X.b) (v : UInt8) (i : NI) (u : Nat) : croX (byX o v X) i u = byQ o v (croX X i u) := by
 unfold croX
 have e1 : rsvD (byX o v X) i = rsvD X i := rfl
 have e2 : mayB (byX o v X) i = mayB X i := rfl
 have e3 : mdoB (byX o v X) i.op = mdoB X i.op := rfl
 rw [e1, e2, e3, setXR_by, ld_by h v i (nD_in _).1 (nD_in _).2, stX_by h v i (nD_in _).1 (nD_in _).2, at_by h v i, ccr_by, prv_by]
 exact zq200
theorem ins_by (h : Sec A T W F (xC X) o X.b) (v : UInt8) (hp : X.pc % 2 = 0) : insX (byX o v X) = byQ o v (insX X) := by
 obtain ⟨e, s⟩ := h.fetch v X.pc hp
 have e1 : fetchD (byX o v X).b (xC (byX o v X)) (byX o v X).pc = fetchD (byB o v X.b) (xC X) X.pc := rfl
 unfold insX
 rw [e1, e]
 obtain ⟨t, ht⟩ := zn1 (fetchD X.b (xC X) X.pc)
 rw [<- ht] at s |-
 unfold byP
 dsimp only
 have eq : (byX o v X).withB (byB o v t.2) = byX o v (X.withB t.2) := rfl
 rw [eq]
 have s' : Sec A T W F (xC (X.withB t.2)) o (X.withB t.2).b := s
 split
 . split
   . unfold insR
     rw [cro_by s' v]
     unfold byQ
     dsimp only
     split
     . rfl
     . rfl
   . rfl
 . rfl
theorem te_by (o : Nat) (v : UInt8) (X : XS) (c t : Nat) : teX (byX o v X) c t = byX o v (teX X c t) := by
 unfold teX
 have e : dlgB (byX o v X) (byX o v X).c.medeleg c = dlgB X X.c.medeleg c := rfl
 rw [e]
 split <;> rfl
theorem ti_by (o : Nat) (v : UInt8) (X : XS) (c : Nat) : tiX (byX o v X) c = byX o v (tiX X c) := by
 unfold tiX
 have e : dlgB (byX o v X) (byX o v X).c.mideleg c = dlgB X X.c.mideleg c := rfl
 have q1 : ∀ n, tsX (byX o v X) n 0 = byX o v (tsX X n 0) := fun _ => rfl
 have q2 : ∀ n, tmX (byX o v X) n 0 = byX o v (tmX X n 0) := fun _ => rfl
 rw [e, q1, q2]
 split <;> rfl
theorem act_by (h : Sec A T W F (xC X) o X.b) (v : UInt8) (hp : X.pc % 2 = 0) : actX (byX o v X) = byQ o v (actX X) := by
 have e1 : (byX o v X).waits = X.waits := rfl
 have e2 : askD (byX o v X) = askD X := rfl
 have e3 : wakX (byX o v X) = byX o v (wakX X) := rfl
 have e4 : intD (byX o v (wakX X)) = intD (wakX X) := rfl
 have e5 : insX (byX o v (wakX X)) = byQ o v (insX (wakX X)) := ins_by (X := wakX X) h v hp
 unfold actX
 rw [e1, e2, e3, e4, e5, ti_by]
 split
 . rfl
 . split
   . unfold actE byQ
     dsimp only
     split
     . rfl
     . rw [te_by]
   . rfl
theorem step_by (h : Sec A T W F (xC X) o X.b) (v : UInt8) (hp : X.pc % 2 = 0) : stepX (byX o v X) = byQ o v (stepX X) := by
 unfold stepX
 rw [act_by h v hp]
 rfl
end
theorem pk_list (r : List UInt8) : (pkB r 0 r.length).data.toList = r := by
 unfold pkB
 rw [List.drop_zero, List.take_length]
 unfold strOfNums
 simp [Function.comp_def]
theorem ent_ldS (B : BusS) (a : Nat) : entE B a = ldS (pkB B.ram 0 B.ram.length) (a - 2147483648) := by
 unfold entE rdRam ldS
 rw [pk_list]
def PgM (w : World) (b n P : Nat) : Prop := ∀ p, p < n -> P = p + 524288 -> Tru w b p
def LfM (w : World) (b a : Nat) : Prop := Tru w b ((a - 2147483648) / 4)
theorem mine_eq {X : XS} (hX : XInv X) {f : Fc} (hf : FcX X f) (h3 : X.mode ≠ 3) (e : Nat) : mineB (xC X) e = ((bitN e 4 == (f.mode == 0)) || (bitN e 4 && (f.mode == 1 && (bits .and .i64 (f.status / 262144) 1 == 1)))) := by
 have hs : f.status = ((X.c.mstatus : Nat) : Int) := hf.status
 have hb : (bits .and .i64 (f.status / 262144) 1 == 1) = bitN X.c.mstatus 18 := bit_tst X.c.mstatus 18 hX.ok.mstatus _ (by rw [hs]; rfl)
 have hm := hf.mode
 have e1 : (f.mode == 0) = decide (X.mode = 0) := by rw [hm, Bool.eq_iff_iff]; simp
 have e2 : (f.mode == 1) = decide (X.mode = 1) := by rw [hm, Bool.eq_iff_iff]; simp; omega
 have e3 : decide ((xC X).sum = 1) = bitN X.c.mstatus 18 := rfl
 have e4 : (xC X).mode = X.mode := rfl
 rw [hb, e1, e2]
 unfold mineB
 rw [e3, e4]
 have := hX.ok.mode
 rcases this with h | h | h
 . rw [h]; cases bitN e 4 <;> cases bitN X.c.mstatus 18 <;> rfl
 . rw [h]; cases bitN e 4 <;> cases bitN X.c.mstatus 18 <;> rfl
 . exact absurd h h3
theorem clo_of {X : XS} (hX : XInv X) {f : Fc} (hf : FcX X f) (h3 : X.mode ≠ 3) {w : World} {tb b0 b1 b2 b3 b4 n m : Nat} (hn : n = (X.b.ram.length + 4095) / 4096) (hr : Rt w tb b0 b1 b2 b3 b4 n m f) : Clo (PgM w b0 n) (PgM w b1 n) (PgM w b2 n) (LfM w b3) (xC X) X.b := by
 have hsz : (pkB X.b.ram 0 X.b.ram.length).size = X.b.ram.length := pkB_size _ _ _ (by omega)
 have hsat : f.satp = ((X.c.satp : Nat) : Int) := hf.satp
 have hC : (xC X).satp = X.c.satp := rfl
 have key : ∀ p : Nat, p < n -> X.c.satp % 4194304 = p + 524288 -> ∃ w0, RI w0 w tb b0 b1 b2 b3 b4 n m (f.mode == 0) (f.mode == 1 && (bits .and .i64 (f.status / 262144) 1 == 1)) (pkB X.b.ram 0 X.b.ram.length) p 1024 := by
  intro p hp e
  have := hr p hp (by rw [hsat]; omega)
  rw [hf.ram] at this
  exact this
 -- an entry's place
 have pl : ∀ P a e, EntOf X.b P a e -> ∃ p k, p < n /\ k < 1024 /\ P = p + 524288 /\ a - 2147483648 = p * 4096 + 4 * k /\ p * 4096 + 4 * k + 4 <= X.b.ram.length /\ ldS (pkB X.b.ram 0 X.b.ram.length) (p * 4096 + 4 * k) = e := by
  intro P a e h
  have h1 := holdsD_at h.h
  have h2 := h.al
  have h4 := h.pg
  refine ⟨(a - 2147483648) / 4096, a % 4096 / 4, by omega, by omega, by omega, by omega, by omega, ?_⟩
  have := h.e
  rw [ent_ldS] at this
  rw [show (a - 2147483648) / 4096 * 4096 + 4 * (a % 4096 / 4) = a - 2147483648 by omega]
  exact this
 refine ⟨?_, ?_, ?_⟩
 . intro p hp e
   obtain ⟨w0, h⟩ := key p hp e
   exact h.t0
 . intro a e h lf
   obtain ⟨p, k, hp, hk, e1, e2, e3, e4⟩ := pl _ a e h
   obtain ⟨w0, R⟩ := key p hp e1
   have := R.rd k hk (by rw [hsz]; exact e3)
   unfold Ent at this
   rw [e4] at this
   have := this lf
   refine ⟨?_, fun hm j hj => ⟨fun q hq e5 => ?_, fun hw q hq e5 => ?_⟩⟩
   . unfold LfM; rw [e2]; exact this.1
   . rw [mine_eq hX hf h3] at hm
     exact (this.2 hm j hj q e5 hq).1
   . rw [mine_eq hX hf h3] at hm
     exact (this.2 hm j hj q e5 hq).2 hw
 . intro a e h b0' b1' b3'
   obtain ⟨p, k, hp, hk, e1, e2, e3, e4⟩ := pl _ a e h
   obtain ⟨w0, R⟩ := key p hp e1
   have hpt := R.pt k hk (by rw [hsz]; exact e3)
   rw [e4] at hpt
   have hlo : ∀ q, e / 1024 = q + 524288 -> q < n -> Tru w b0 q /\ Rds w b1 b2 b3 n (f.mode == 0) (f.mode == 1 && (bits .and .i64 (f.status / 262144) 1 == 1)) (pkB X.b.ram 0 X.b.ram.length) q 1 1024 := fun q h1 h2 => R.lo q h2 (hpt ⟨b0', b1', b3'⟩ q h1 h2)
   refine ⟨fun q hq h1 => (hlo q h1 hq).1, fun a' e' h' lf => ?_⟩
   obtain ⟨p', k', hp', hk', g1, g2, g3, g4⟩ := pl _ a' e' h'
   have := (hlo p' g1 hp').2 k' hk' (by rw [hsz]; exact g3)
   unfold Ent at this
   rw [g4] at this
   have := this lf
   refine ⟨?_, fun hm => ⟨fun q hq e5 => ?_, fun hw q hq e5 => ?_⟩⟩
   . unfold LfM; rw [g2]; exact this.1
   . rw [mine_eq hX hf h3] at hm
     exact (this.2 hm 0 (by omega) q e5 hq).1
   . rw [mine_eq hX hf h3] at hm
     exact (this.2 hm 0 (by omega) q e5 hq).2 hw
theorem pgd_of {X : XS} (hX : XInv X) {f : Fc} (hf : FcX X f) (h : (!(f.mode == 3) && (f.satp / 2147483648 == 1)) = true) : Pgd (xC X) /\ X.mode ≠ 3 := by
 have hsat : f.satp = ((X.c.satp : Nat) : Int) := hf.satp
 have hm := hf.mode
 rw [Bool.and_eq_true, hsat, hm] at h
 have h3 : X.mode ≠ 3 := by intro e; rw [e] at h; simp at h
 have h4 : 2147483648 <= X.c.satp := by have := h.2; simp at this; omega
 refine ⟨⟨?_, ?_, h4⟩, h3⟩
 . have := hX.ok.mode
   show X.mode = 0 \/ X.mode = 1
   omega
 . have := hX.mpv h3
   show X.c.mstatus / 2 ^ 17 % 2 = 0
   rw [Nat.testBit_eq_decide_div_mod_eq] at this
   simp at this
   omega
def oneB (v : Int) : ByteArray := ⟨#[UInt8.ofNat v.toNat]⟩
theorem load_one (X : XS) (j : Nat) (v : Int) : loadX X j (oneB v) = byX j (UInt8.ofNat v.toNat) (urwX X j 1) := by
 unfold loadX oneB
 show urwX (setRam X (X.b.ram.set j (UInt8.ofNat v.toNat))) j 1 = _
 unfold urwX
 have e : urwB (setRam X (X.b.ram.set j (UInt8.ofNat v.toNat))) j 1 = urwB X j 1 := rfl
 rw [e]
 split <;> rfl
theorem show_by (o : Nat) (v : UInt8) (X : XS) : showX (byX o v X) = showX X := rfl
theorem pk_ext (r : List UInt8) (a b : Nat) (h : b <= r.length) : ((pkB r 0 r.length).extract a b).data.toList = (r.take b).drop a := by
 have := pk_list r
 rw [ByteArray.data_extract, Array.toList_extract, this]
 rw [List.extract_eq_take_drop, List.drop_take]
end Go.Proofs.YtmlgonbhoknoiabGreatDoor
