import Derived.Test.YtmlgonbhoknoiabGreatDoorYAI
set_option maxHeartbeats 8000000
set_option linter.all false
namespace Go.Proofs.YtmlgonbhoknoiabGreatDoor
open Go.RowKit Go.Proofs.Tryz
def bytV (l : List UInt8) : List Value := l.map fun c => .int .u8 (c.toNat : Int)
theorem XAt.laid {mb rb : Nat} : ∀ (l : List UInt8) (off : Nat) {X : XS} {w : World}, XAt w mb rb X -> off + l.length <= X.b.ram.length -> XAt (w.setCells rb off (bytV l)) mb rb (setRam X (laidB X.b.ram off l))
 | [], off, X, w, h, _ => h
 | c :: l, off, X, w, h, hl => by
  have h1 := h.setR off (by simp at hl; omega) c
  have h2 := XAt.laid l (off + 1) h1 (by simp at hl |-; omega)
  exact h2
theorem laid_all : ∀ (l r : List UInt8) (p : Nat), p + l.length = r.length -> laidB r p l = r.take p ++ l
 | [], r, p, h => by simp at h; simp [laidB, h]
 | c :: l, r, p, h => by
  simp at h
  have := laid_all l (r.set p c) (p + 1) (by simp; omega)
  simp only [laidB]
  rw [this, List.take_succ_eq_append_getElem (by simp; omega)]
  simp [List.take_set_of_le]
theorem info77 : (prog.info? 77).map (·.size) = some 71 := by kernel_rfl
theorem infoU8 : (prog.info? 5).map (·.size) = some 1 := by kernel_rfl
theorem alloc_there' (w : World) (a : Array Value) (T : Nat) : (w.alloc (.cells a T)).there w.heap.size 0 a.size := by
 intro j hj
 constructor
 . simp [hj]
 . simp
theorem box_at {w mb rb X} (h : XAt w mb rb X) (z : Array Value) (T : Nat) (hz : z.size = 71) : XAt ((w.alloc (.cells z T)).setCells w.heap.size 0 (xL rb X)) w.heap.size rb X := by
 have ht := alloc_there' w z T
 have hr := World.rangeAt_setCells_same (w.alloc (.cells z T)) w.heap.size 0 (xL rb X) (by rw [xL_len, <- hz]; exact ht)
 have hk : Kept [] w ((w.alloc (.cells z T)).setCells w.heap.size 0 (xL rb X)) := Kept.setCs _ (.inr (Nat.le_refl _)) _ _ _ ((Kept.refl _ _).alloc _)
 have hrl := h.rlt
 refine ⟨fun k hk71 => ?_, fun o => ?_, ?_, fun j hj => ?_, fun o => ?_, ?_, ?_⟩
 . have hl : k < (xL rb X).length := by rw [xL_len]; exact hk71
   have := hr k _ (List.getElem?_eq_getElem hl)
   rw [Nat.zero_add] at this
   rw [this, List.getElem?_eq_getElem hl]
 . rw [World.frozen?_setCells]; simp
 . rw [setCells_size]; simp
 . rw [hk.cell (p := ⟨rb, j, none⟩) hrl (by simp)]; exact h.ram j hj
 . rw [hk.frozen (p := ⟨rb, o, none⟩) hrl (by simp)]; exact h.rfro o
 . rw [setCells_size]; simp; omega
 . omega
theorem wpList_boxed {ops : Array Oper} {rest : List Oper} {op : Oper} {a : Act} {w : World} {Q : Exit -> Act -> World -> Prop} {mb rb : Nat} {X : XS} {z : Array Value} {T : Nat} (h : XAt w mb rb X) (hz : z.size = 71) (hgd : op.guard = none) (ty : TypeId) (x y : Operand) (ho : op.op = .store ty x y) (cs : List Value) (hcs : cs = xL rb X)
 (hx : a.eval x = .pointer (some ⟨w.heap.size, 0, none⟩)) (hy : a.eval y = .agg cs.toArray) (hi : (prog.info? ty).map (·.size) = some 71)
 (hn : ∀ w2, XAt w2 w.heap.size rb X -> Kept [] w w2 -> w2.heap.size = w.heap.size + 1 -> wpList prog ops Q rest (a.put op.dst undef) w2) : wpList prog ops Q (op :: rest) a (w.alloc (.cells z T)) := by
 subst hcs
 refine wpList_store_mid hgd ty x y ho w.heap.size 0 (xL rb X).toArray hx hy ?_ hi ?_ ?_
 . show World.there _ _ _ 71
   rw [<- hz]; exact alloc_there' w z T
 . simp [xL, Value.oneCell']
 . exact hn _ (box_at h z T hz) (Kept.setCs _ (.inr (Nat.le_refl _)) _ _ _ ((Kept.refl _ _).alloc _)) (by rw [setCells_size]; simp)
theorem ram_at {w mb rb X} (h : XAt w mb rb X) (n T : Nat) : XAt ((w.setCell ⟨mb, 0, none⟩ (.slice (some ⟨w.heap.size, 0, none⟩) n n)).alloc (.cells (madeCells #[.int .u8 0] n) T)) mb w.heap.size (setRam X (List.replicate n 0)) := by
 have hlt := h.lt
 have hne : ¬ mb = w.heap.size := by omega
 have hz : (w.setCell ⟨mb, 0, none⟩ (.slice (some ⟨w.heap.size, 0, none⟩) n n)).heap.size = w.heap.size := by simp [World.setCell]
 have hc0 : (w.setCell ⟨mb, 0, none⟩ (.slice (some ⟨w.heap.size, 0, none⟩) n n)).cell? ⟨mb, 0, none⟩ = some (.slice (some ⟨w.heap.size, 0, none⟩) n n) := World.cell?_setCell_same _ _ _ h.c0
 have hck : ∀ k, k + 1 < 71 -> (w.setCell ⟨mb, 0, none⟩ (.slice (some ⟨w.heap.size, 0, none⟩) n n)).cell? ⟨mb, k + 1, none⟩ = (xL rb X)[k + 1]? := fun k hk => by rw [World.cell?_setCell_other _ _ _ _ (by simp), h.cell (k + 1) hk]
 have hfr : ∀ o, (w.setCell ⟨mb, 0, none⟩ (.slice (some ⟨w.heap.size, 0, none⟩) n n)).frozen? ⟨mb, o, none⟩ = false := fun o => by rw [World.frozen?_setCell]; exact h.fro o
 generalize w.setCell ⟨mb, 0, none⟩ (.slice (some ⟨w.heap.size, 0, none⟩) n n) = V at hz hc0 hck hfr
 have hk : Kept [] V (V.alloc (.cells (madeCells #[.int .u8 0] n) T)) := (Kept.refl [] V).alloc _
 rw [<- hz]
 have hne' : ¬ mb = V.heap.size := by omega
 refine ⟨fun k hk71 => ?_, fun o => ?_, ?_, fun j hj => ?_, fun o => ?_, ?_, hne'⟩
 . rw [hk.cell (p := ⟨mb, k, none⟩) (by show mb < _; omega) (by simp)]
   cases k with
   | zero => rw [hc0]; simp [xL, setRam, hz]
   | succ k => rw [hck k hk71]; rfl
 . rw [hk.frozen (p := ⟨mb, o, none⟩) (by show mb < _; omega) (by simp)]; exact hfr o
 . simp; omega
 . have hj' : j < n := by simpa [setRam] using hj
   simp [madeCells, hj', Nat.mod_one, setRam]
 . simp
 . simp
theorem bytV_len (l : List UInt8) : (bytV l).length = l.length := by simp [bytV]
theorem x_Copy (mb rb : Nat) (X : XS) (hram : X.b.ram.length <= 65536) (w) (hw : Hid (XAt w mb rb X)) :
 Calls prog 29 #[.pointer (some ⟨mb, 0, none⟩)] w fun o w' => o = .returned (.pointer (some ⟨w.heap.size, 0, none⟩)) /\ XAt w' w.heap.size (w.heap.size + 1) X /\ Kept [] w w' := by
 have hlt := hw.out.lt
 have hrlt := hw.out.rlt
 have hlt' : ¬ mb = w.heap.size := by omega
 have HR := hide1 (hw.out.range)
 have hsz : (xL rb X).toArray.size = 71 := rfl
 obtain ⟨i0, hi, hz0, hz1, hz2⟩ := info_parts Tryz.info5
 obtain ⟨n, hn⟩ := zn1 (X.b.ram.length)
 rw [<- hn] at hram
 have hmk : ∀ w, (Instr.makeSlice 64 (.int .i64 (n : Int)) (.int .i64 (n : Int))).run prog w = .ok (.slice (some ⟨w.heap.size, 0, none⟩) n n) (w.alloc (.cells (madeCells #[.int .u8 0] n) 5)) := by
  intro w
  have h := run_makeSlice (P := prog) w 64 5 i0 (.int .u8 0) Tryz.underlying64 hi hz0 .i64 .i64 n n (by omega) (Int.le_refl _) (by rw [hz1]; omega) (by rw [hz2]; omega) (by omega)
  rw [hz1] at h
  simpa [Value.cells] using h
 clear hi hz0 hz1 hz2 i0
 go_enter func29, ntmps29
 go_upto_region 1 with fail
 refine wp_region_lit ?_
 refine wpList_plain rfl (fun K hK => ?_)
 go_simp
 refine hK _ _ ?_
 clear hK K
 refine wpList_plain rfl (fun K hK => ?_)
 go_simp
 refine hK _ _ ?_
 clear hK K
 obtain ⟨cs, hcs⟩ := zn1 (xL rb X)
 rw [<- hcs] at HR hsz
 have HCS := hide1 hcs
 clear hcs
 refine wpList_load_mid rfl _ _ rfl mb 0 (by rfl) cs _ HR.out Tryz.underlying77 rfl (by rw [info77, HCS.out]; rfl) ?_
 refine wpList_plain rfl (fun K hK => ?_)
 go_simp
 refine hK _ _ ?_
 clear hK K
 refine wpList_boxed hw.out (by rfl) rfl _ _ _ rfl cs HCS.out rfl rfl info77 (fun w2 hx2 hk2 hs2 => ?_)
 refine wpList_nil ?_
 clear HCS HR hsz
 have hx0 := hw.out.kept hk2
 have c0 := hx0.c0
 have d0 := hx2.c0
 rw [<- hn] at c0 d0
 have hf2 := hx2.fro
 have hl2 : w.heap.size < w2.heap.size := by omega
 have hl2' : ¬ w.heap.size = w2.heap.size := by omega
 have hl3 : mb < w2.heap.size := by omega
 have hl3' : ¬ mb = w2.heap.size := by omega
 have hx3 := ram_at hx2 n 5
 have hx0' : XAt ((w2.setCell ⟨w.heap.size, 0, none⟩ (.slice (some ⟨w2.heap.size, 0, none⟩) n n)).alloc (.cells (madeCells #[.int .u8 0] n) 5)) mb rb X := (XAt.more hx0 (G := [w.heap.size]) ((Kept.refl _ _).setCell (.inl (by simp)) _) (by simp; omega) (by simp; omega)).alloc _
 have hk3 : Kept [] w ((w2.setCell ⟨w.heap.size, 0, none⟩ (.slice (some ⟨w2.heap.size, 0, none⟩) n n)).alloc (.cells (madeCells #[.int .u8 0] n) 5)) := (hk2.setCell (.inr (Nat.le_refl _)) _).alloc _
 obtain ⟨w3, hw3⟩ := zn1 ((w2.setCell ⟨w.heap.size, 0, none⟩ (.slice (some ⟨w2.heap.size, 0, none⟩) n n)).alloc (.cells (madeCells #[.int .u8 0] n) 5))
 rw [<- hw3] at hx3 hx0' hk3
 have hlen : (setRam X (List.replicate n 0)).b.ram.length = n := by simp [setRam]
 have hcp : (Builtin.copy_ #[64, 64] 3 #[.slice (some ⟨w2.heap.size, 0, none⟩) n n, .slice (some ⟨rb, 0, none⟩) n n]).run prog w3.drew = .ok (.int .i64 n) (w3.drew.setCells w2.heap.size 0 (bytV X.b.ram)) := by
  have := run_copy_cells (P := prog) w3.drew 64 64 3 5 w2.heap.size 0 n n ⟨rb, 0, none⟩ n n (bytV X.b.ram) Tryz.underlying64 infoU8 (by rw [bytV_len, <- hn]; exact (Nat.min_self n).symm) ?_ ?_ ?_ ?_
  . rw [this, bytV_len, <- hn]; rfl
  . intro j v hv
    have hj := (List.getElem?_eq_some_iff.1 hv).1
    rw [bytV_len] at hj
    rw [Addr.add_mid, Nat.zero_add, hx0'.drew.ram j hj, <- hv]
    simp [bytV, hj]
  . intro j hj
    rw [bytV_len, <- hn] at hj
    rw [Nat.zero_add, hx3.drew.ram j (by rw [hlen]; exact hj)]; rfl
  . intro j _
    exact hx3.drew.rfro _
  . intro v hv
    simp [bytV] at hv
    obtain ⟨c, _, rfl⟩ := hv
    rfl
 have hfin : XAt (w3.drew.setCells w2.heap.size 0 (bytV X.b.ram)) w.heap.size w2.heap.size X := by
  have h1 := XAt.laid X.b.ram 0 hx3.drew (by rw [hlen, <- hn]; omega)
  rw [laid_all X.b.ram _ 0 (by rw [hlen, <- hn]; omega)] at h1
  exact h1
 have hkf : Kept [] w (w3.drew.setCells w2.heap.size 0 (bytV X.b.ram)) := Kept.setCs _ (.inr (by omega)) _ _ _ hk3.drew
 rw [hs2] at hfin
 have HF := hide1 hfin
 have HKF := hide1 hkf
 have e3 := hx0'.c0
 have f3 := hx3.c0
 rw [<- hn] at e3
 rw [hlen] at f3
 clear hx3 hx0' hk3 hlen hfin hkf
 have HX2 := hide1 hx2
 have HX0 := hide1 hx0
 clear hx2 hx0
 have HS2 := hide1 hs2
 have HN := hide1 hn
 have HK2 := hide1 hk2
 clear hs2 hn hk2
 go_upto_region 3 with fail
 rw [<- hw3]
 clear hw3
 go_region
 all_goals
  go_wp2_with fail
  go_ret
  exact ⟨rfl, by rw [HS2.out]; exact HF.out, HKF.out⟩
section
attribute [local go_sem ↓] Go.wp_at_zero Go.wp_at_succ
theorem run_copy_str (w : World) (dT sT ty elem : TypeId) (b o dLen dCap : Nat) (s : ByteArray) (hu : prog.underlying dT = some (.slice elem)) (hs : (prog.info? elem).map (·.size) = some 1) (hn : s.size <= dLen)
 (hc : ∀ j, j < s.size -> (w.cell? ⟨b, o + j, none⟩).isSome = true) (hf : ∀ j, j < s.size -> w.frozen? ⟨b, o + j, none⟩ = false) :
 (Builtin.copy_ #[dT, sT] ty #[.slice (some ⟨b, o, none⟩) dLen dCap, .string s]).run prog w = .ok (goInt s.size) (w.setCells b o (bytV s.data.toList)) := by
 have hl : (bytV s.data.toList).length = s.size := by rw [bytV_len]; simp
 have hst := run_storeCells_cells (P := prog) b o (bytV s.data.toList) 0 w (by rw [hl]; simpa using hc) (by rw [hl]; simpa using hf) (by
  intro v hv
  simp [bytV] at hv
  obtain ⟨c, _, rfl⟩ := hv
  rfl)
 have hm : min s.size dLen = s.size := by omega
 have he : s.extract 0 s.size = s := by simp
 cases hq : prog.info? elem with
 | none => simp [hq] at hs
 | some i =>
  have hi : i.size = 1 := by simpa [hq] using hs
  have e3 : List.take s.size (List.map (fun b => Value.int .u8 (b.toNat : Int)) s.data.toList) = bytV s.data.toList := by unfold bytV; exact List.take_of_length_le (by simp)
  simp [Builtin.copy_, run_underlying hu, Builtin.lenOf, Builtin.firstCells, _root_.Go.sizeOf, typeInfo, hq, hi, hm, he, e3]
  rw [hst]; rfl
theorem x_Load_long (mb : Nat) (off : Int) (s : ByteArray) (h : 65536 < s.size) (w : World) :
 CS 23 #[.pointer (some ⟨mb, 0, none⟩), .int .i64 off, .string s] (.int .i64 1) w := by
 have q : decide (65536 < (s.size : Int)) = true := by simp; omega
 exact zq339
theorem x_Load_arg (mb rb : Nat) (X : XS) (hr : X.b.ram.length <= 65536) (off : Int) (s : ByteArray) (hs : s.size <= 65536) (h : off < 0 \/ (X.b.ram.length : Int) - s.size < off) (w) (hw : Hid (XAt w mb rb X)) :
 CS 23 #[.pointer (some ⟨mb, 0, none⟩), .int .i64 off, .string s] (.int .i64 2) w := by
 have q : decide (65536 < (s.size : Int)) = false := by simp; omega
 have c0 := hw.out.c0
 have hwr := wrap_in ((X.b.ram.length : Int) - s.size) (by omega)
 by_cases h0 : off < 0
 . have q1 : decide (off < 0) = true := by simp [h0]
   exact zq340
 . have q1 : decide (off < 0) = false := by simp; omega
   have q2 : decide ((X.b.ram.length : Int) - s.size < off) = true := by simp; omega
   exact zq340
def loadX (X : XS) (off : Nat) (s : ByteArray) : XS := urwX (setRam X (laidB X.b.ram off s.data.toList)) off s.size
theorem x_Load (mb rb X) (hX : XOk X) (off : Nat) (s : ByteArray) (h : off + s.size <= X.b.ram.length) (w) (hw : Hid (XAt w mb rb X)) :
 CX 23 #[.pointer (some ⟨mb, 0, none⟩), .int .i64 off, .string s] (.int .i64 0) [mb, rb] mb rb (loadX X off s) w := by
 have hr := hX.b.ram
 have q : decide (65536 < (s.size : Int)) = false := by simp; omega
 have q1 : decide ((off : Int) < 0) = false := by simp
 have q2 : decide ((X.b.ram.length : Int) - s.size < (off : Int)) = false := by simp; omega
 have hwr := wrap_in ((X.b.ram.length : Int) - s.size) (by omega)
 have c0 := hw.out.c0
 have hsl : ∃ o2, (∀ w, (Instr.slice 64 (.slice (some ⟨rb, 0, none⟩) X.b.ram.length X.b.ram.length) (some (.int .i64 (off : Int))) none none).run prog w = .ok (.slice (some ⟨rb, o2, none⟩) (X.b.ram.length - off) (X.b.ram.length - off)) w) /\ (s.size = 0 \/ o2 = off) := by
  have hr : ∀ w, (Instr.slice 64 (.slice (some ⟨rb, 0, none⟩) X.b.ram.length X.b.ram.length) (some (.int .i64 (off : Int))) none none).run prog w = .ok (.slice (if X.b.ram.length = off then some ⟨rb, 0, none⟩ else some ⟨rb, off, none⟩) (X.b.ram.length - off) (X.b.ram.length - off)) w := by
   intro w
   have hu : prog.underlying 64 = some (.slice (prog.elem 64)) := by kernel_rfl
   have h := run_slice_l (P := prog) w 64 (some ⟨rb, 0, none⟩) X.b.ram.length X.b.ram.length hu .i64 (off : Int) (by omega) (by omega)
   rw [h]
   have hz : (_root_.Go.sizeOf (prog.elem 64)).run prog w = .ok 1 w := by kernel_rfl
   rw [hz]
   simp only [Result.andThen, sliced]
   rw [show (off : Int).toNat = off by omega, Nat.mul_one, Option.map_some, Addr.add_mid rb 0 off, Nat.zero_add]
  by_cases hc : X.b.ram.length = off
  . exact ⟨0, fun w => by rw [hr w, if_pos hc], .inl (by omega)⟩
  . exact ⟨off, fun w => by rw [hr w, if_neg hc], .inr rfl⟩
 obtain ⟨o2, hsl, ho2⟩ := hsl
 have hcp : (Builtin.copy_ #[64, 9] 3 #[.slice (some ⟨rb, o2, none⟩) (X.b.ram.length - off) (X.b.ram.length - off), .string s]).run prog w = .ok (.int .i64 s.size) (w.setCells rb off (bytV s.data.toList)) := by
  have := run_copy_str w 64 9 3 5 rb o2 (X.b.ram.length - off) (X.b.ram.length - off) s Tryz.underlying64 infoU8 (by omega) (fun j hj => by
   rw [hw.out.ram (o2 + j) (by omega)]; rfl) (fun j _ => hw.out.rfro _)
  rw [this]
  rcases ho2 with h0 | h0
  . have hz : bytV s.data.toList = [] := List.eq_nil_of_length_eq_zero (by rw [bytV_len]; simpa using h0)
    rw [hz]; rfl
  . rw [h0]; rfl
 have hx1 := hide1 (XAt.laid s.data.toList off hw.out (by simpa using h))
 have hk1 : Hid (Kept [mb, rb] w (w.setCells rb off (bytV s.data.toList))) := hide1 (Kept.setCs _ (.inl (by simp)) _ _ _ (Kept.refl _ _))
 have hX1 : XOk (setRam X (laidB X.b.ram off s.data.toList)) := { hX with b := setRam_ok hX.b (laidB_length _ _ _) }
 have UW := hide1 (x_unreserveWritten mb rb _ hX1 off s.size (by omega) (by omega) _ hx1)
 unfold loadX
 obtain ⟨w1, hw1⟩ := zn1 (w.setCells rb off (bytV s.data.toList))
 rw [<- hw1] at hcp hk1 UW
 clear hX hX1 hw1 hx1 hw ho2 h
 go_enter func23, ntmps23
 go_wp2_with fail
 refine UW.out.mono ?_
 rintro o w2 ⟨rfl, hx2, hk2⟩
 go_wp2_with fail
 go_ret
 exact ⟨rfl, hx2, hk1.out.trans (hk2.mono (by simp))⟩
end
def portS (B : BusS) : ByteArray := ((((((leA B.enable 1 ++ leA B.scratch 1) ++ (if B.lost = true then ⟨#[33]⟩ else ⟨#[46]⟩)) ++ leA B.rx.size 1) ++ B.rx) ++ leA B.tx.size 1) ++ B.tx)
theorem x_portShow (B : BusS) (hr : B.rx.size <= 4) (ht : B.tx.size <= 8) (w : World) :
 CK 109 #[prtA B] (.string (portS B)) w := by
 unfold prtA portS
 obtain ⟨en, sc, lo, rx, tx, h5⟩ : ∃ a b c d e, a = B.enable /\ b = B.scratch /\ c = B.lost /\ d = B.rx /\ e = B.tx := ⟨_, _, _, _, _, rfl, rfl, rfl, rfl, rfl⟩
 obtain ⟨e1, e2, e3, e4, e5⟩ := h5
 simp only [<- e1, <- e2, <- e3, <- e4, <- e5] at *
 clear e1 e2 e3 e4 e5
 have L1 := fun W => hide1 (l_Le (en : Int) 1 (by decide) W)
 have L2 := fun W => hide1 (l_Le (sc : Int) 1 (by decide) W)
 have L3 := fun W => hide1 (x_eith lo ⟨#[33]⟩ ⟨#[46]⟩ W)
 have L4 := fun W => hide1 (l_Le (rx.size : Int) 1 (by decide) W)
 have L5 := fun W => hide1 (l_Le (tx.size : Int) 1 (by decide) W)
 have zo : (if lo = true then (⟨#[33]⟩ : ByteArray) else ⟨#[46]⟩).size = 1 := by cases lo <;> rfl
 have y1 := leA_size (en : Int) 1
 have y2 := leA_size (sc : Int) 1
 have y4 := leA_size (rx.size : Int) 1
 have y5 := leA_size (tx.size : Int) 1
 obtain ⟨u1, h1⟩ := zn1 (leA en 1)
 obtain ⟨u2, h2⟩ := zn1 (leA sc 1)
 obtain ⟨u3, h3⟩ := zn1 ((if lo = true then (⟨#[33]⟩ : ByteArray) else ⟨#[46]⟩))
 obtain ⟨u4, h4⟩ := zn1 (leA rx.size 1)
 obtain ⟨u5, h5⟩ := zn1 (leA tx.size 1)
 simp only [<- h1, <- h2, <- h3, <- h4, <- h5] at L1 L2 L3 L4 L5 zo y1 y2 y4 y5 |-
 obtain ⟨s1, g1, z1, a1⟩ := add_in u1 u2 (by omega)
 obtain ⟨s2, g2, z2, a2⟩ := add_in s1 u3 (by omega)
 obtain ⟨s3, g3, z3, a3⟩ := add_in s2 u4 (by omega)
 obtain ⟨s4, g4, z4, a4⟩ := add_in s3 rx (by omega)
 obtain ⟨s5, g5, z5, a5⟩ := add_in s4 u5 (by omega)
 obtain ⟨s6, g6, z6, a6⟩ := add_in s5 tx (by omega)
 rw [<- g1, <- g2, <- g3, <- g4, <- g5, <- g6]
 clear h1 h2 h3 h4 h5 g1 g2 g3 g4 g5 g6 z1 z2 z3 z4 z5 z6 zo y1 y2 y4 y5
 have bx0 : BoxAt (w.alloc (.cells #[.int .i64 en, .int .i64 sc, .bool lo, .string rx, .string tx] 75)).drew w.heap.size [.int .i64 en, .int .i64 sc, .bool lo, .string rx, .string tx] := (BoxAt.new w [.int .i64 en, .int .i64 sc, .bool lo, .string rx, .string tx] _).drew
 have hk0 : Kept [] w (w.alloc (.cells #[.int .i64 en, .int .i64 sc, .bool lo, .string rx, .string tx] 75)).drew := ((Kept.refl _ _).alloc _).drew
 go_enter func109, ntmps109
 go_upto_region 1 with fail
 go_region_held3 (fun w' => w'.cell? ⟨w.heap.size, 0, none⟩ = some (.int .i64 en) /\ w'.cell? ⟨w.heap.size, 1, none⟩ = some (.int .i64 sc) /\ w'.cell? ⟨w.heap.size, 2, none⟩ = some (.bool lo)) (first | go_keep | exact ⟨bx1.cell 0 _ rfl, bx1.cell 1 _ rfl, bx1.cell 2 _ rfl⟩ | exact ⟨bx2.cell 0 _ rfl, bx2.cell 1 _ rfl, bx2.cell 2 _ rfl⟩) (first | (go_at_call_of 147 (Value.int IntKind.i64 (en : Int)); refine (L1 _).out.mono ?_; rintro e w1 ⟨rfl, hk1⟩; have bx1 := bx0.more hk1) | (go_at_call_of 147 (Value.int IntKind.i64 (sc : Int)); refine (L2 _).out.mono ?_; rintro e w2 ⟨rfl, hk2⟩; have bx2 := bx1.more hk2) | (go_at_call 148; refine (L3 _).out.mono ?_; rintro e w3 ⟨rfl, rfl⟩))
 all_goals
  have bx3 := bx2.drew
  have d3 := bx2.cell 3 _ rfl
  have hk3 := ((hk0.trans hk1).trans hk2).drew
  clear bx0 bx1 hk0 hk1 hk2
  go_upto_region 2 with fail
  go_region_held3 (fun w' => w'.cell? ⟨w.heap.size, 3, none⟩ = some (.string rx)) (first | go_keep | exact bx4.cell 3 _ rfl) (first | (go_at_call 147; refine (L4 _).out.mono ?_; rintro e w4 ⟨rfl, hk4⟩; have bx4 := bx3.more hk4))
  all_goals
   have bx5 := bx4.drew
   have d4 := bx4.cell 4 _ rfl
   have hk5 := (hk3.trans hk4).drew
   clear bx3 hk3 hk4
   go_upto_region 3 with fail
   go_region_held3 (fun w' => w'.cell? ⟨w.heap.size, 4, none⟩ = some (.string tx)) (first | go_keep | exact bx6.cell 4 _ rfl) (first | (go_at_call 147; refine (L5 _).out.mono ?_; rintro e w6 ⟨rfl, hk6⟩; have bx6 := bx5.more hk6))
   all_goals
    go_wp2_with fail
    go_ret
    exact ⟨rfl, hk5.trans hk6⟩
def csrS (X : XS) : ByteArray := (((((((((((((((((((leA X.c.mstatus 4 ++ leA X.c.medeleg 4) ++ leA X.c.mideleg 4) ++ leA X.c.mie 4) ++ leA X.c.mip 4) ++ leA X.c.mtvec 4) ++ leA X.c.mcen 4) ++ leA X.c.minh 4) ++ leA X.c.mscratch 4) ++ leA X.c.mepc 4) ++ leA X.c.mcause 4) ++ leA X.c.mtval 4) ++ leA X.c.stvec 4) ++ leA X.c.scen 4) ++ leA X.c.sscratch 4) ++ leA X.c.sepc 4) ++ leA X.c.scause 4) ++ leA X.c.stval 4) ++ leA X.c.satp 4) ++ wideS X.c.cyc X.c.cych) ++ wideS X.c.ret X.c.reth
theorem x_csrShow' (v0 v1 v2 v3 v4 v5 v6 v7 v8 v9 v10 v11 v12 v13 v14 v15 v16 v17 v18 v19 v20 v21 v22 : Nat) (w : World) :
 CK 107 #[.agg #[.int .i64 v0, .int .i64 v1, .int .i64 v2, .int .i64 v3, .int .i64 v4, .int .i64 v5, .int .i64 v6, .int .i64 v7, .int .i64 v8, .int .i64 v9, .int .i64 v10, .int .i64 v11, .int .i64 v12, .int .i64 v13, .int .i64 v14, .int .i64 v15, .int .i64 v16, .int .i64 v17, .int .i64 v18, .int .i64 v19, .int .i64 v20, .int .i64 v21, .int .i64 v22]] (.string ((((((((((((((((((((leA v0 4 ++ leA v1 4) ++ leA v2 4) ++ leA v3 4) ++ leA v4 4) ++ leA v5 4) ++ leA v6 4) ++ leA v7 4) ++ leA v8 4) ++ leA v9 4) ++ leA v10 4) ++ leA v11 4) ++ leA v12 4) ++ leA v13 4) ++ leA v14 4) ++ leA v15 4) ++ leA v16 4) ++ leA v17 4) ++ leA v18 4) ++ wideS v19 v20) ++ wideS v21 v22)) w := by
 have L0 := fun W => hide1 (l_Le (v0 : Int) 4 (by decide) W)
 have y0 := leA_size (v0 : Int) 4
 have L1 := fun W => hide1 (l_Le (v1 : Int) 4 (by decide) W)
 have y1 := leA_size (v1 : Int) 4
 have L2 := fun W => hide1 (l_Le (v2 : Int) 4 (by decide) W)
 have y2 := leA_size (v2 : Int) 4
 have L3 := fun W => hide1 (l_Le (v3 : Int) 4 (by decide) W)
 have y3 := leA_size (v3 : Int) 4
 have L4 := fun W => hide1 (l_Le (v4 : Int) 4 (by decide) W)
 have y4 := leA_size (v4 : Int) 4
 have L5 := fun W => hide1 (l_Le (v5 : Int) 4 (by decide) W)
 have y5 := leA_size (v5 : Int) 4
 have L6 := fun W => hide1 (l_Le (v6 : Int) 4 (by decide) W)
 have y6 := leA_size (v6 : Int) 4
 have L7 := fun W => hide1 (l_Le (v7 : Int) 4 (by decide) W)
 have y7 := leA_size (v7 : Int) 4
 have L8 := fun W => hide1 (l_Le (v8 : Int) 4 (by decide) W)
 have y8 := leA_size (v8 : Int) 4
 have L9 := fun W => hide1 (l_Le (v9 : Int) 4 (by decide) W)
 have y9 := leA_size (v9 : Int) 4
 have L10 := fun W => hide1 (l_Le (v10 : Int) 4 (by decide) W)
 have y10 := leA_size (v10 : Int) 4
 have L11 := fun W => hide1 (l_Le (v11 : Int) 4 (by decide) W)
 have y11 := leA_size (v11 : Int) 4
 have L12 := fun W => hide1 (l_Le (v12 : Int) 4 (by decide) W)
 have y12 := leA_size (v12 : Int) 4
 have L13 := fun W => hide1 (l_Le (v13 : Int) 4 (by decide) W)
 have y13 := leA_size (v13 : Int) 4
 have L14 := fun W => hide1 (l_Le (v14 : Int) 4 (by decide) W)
 have y14 := leA_size (v14 : Int) 4
 have L15 := fun W => hide1 (l_Le (v15 : Int) 4 (by decide) W)
 have y15 := leA_size (v15 : Int) 4
 have L16 := fun W => hide1 (l_Le (v16 : Int) 4 (by decide) W)
 have y16 := leA_size (v16 : Int) 4
 have L17 := fun W => hide1 (l_Le (v17 : Int) 4 (by decide) W)
 have y17 := leA_size (v17 : Int) 4
 have L18 := fun W => hide1 (l_Le (v18 : Int) 4 (by decide) W)
 have y18 := leA_size (v18 : Int) 4
 have L19 := fun W => hide1 (x_wideShow v19 v20 W)
 have y19 := wideS_size v19 v20
 have L20 := fun W => hide1 (x_wideShow v21 v22 W)
 have y20 := wideS_size v21 v22
 obtain ⟨u0, h0⟩ := zn1 (leA v0 4)
 simp only [<- h0] at L0 y0 |-
 obtain ⟨u1, h1⟩ := zn1 (leA v1 4)
 simp only [<- h1] at L1 y1 |-
 obtain ⟨u2, h2⟩ := zn1 (leA v2 4)
 simp only [<- h2] at L2 y2 |-
 obtain ⟨u3, h3⟩ := zn1 (leA v3 4)
 simp only [<- h3] at L3 y3 |-
 obtain ⟨u4, h4⟩ := zn1 (leA v4 4)
 simp only [<- h4] at L4 y4 |-
 obtain ⟨u5, h5⟩ := zn1 (leA v5 4)
 simp only [<- h5] at L5 y5 |-
 obtain ⟨u6, h6⟩ := zn1 (leA v6 4)
 simp only [<- h6] at L6 y6 |-
 obtain ⟨u7, h7⟩ := zn1 (leA v7 4)
 simp only [<- h7] at L7 y7 |-
 obtain ⟨u8, h8⟩ := zn1 (leA v8 4)
 simp only [<- h8] at L8 y8 |-
 obtain ⟨u9, h9⟩ := zn1 (leA v9 4)
 simp only [<- h9] at L9 y9 |-
 obtain ⟨u10, h10⟩ := zn1 (leA v10 4)
 simp only [<- h10] at L10 y10 |-
 obtain ⟨u11, h11⟩ := zn1 (leA v11 4)
 simp only [<- h11] at L11 y11 |-
 obtain ⟨u12, h12⟩ := zn1 (leA v12 4)
 simp only [<- h12] at L12 y12 |-
 obtain ⟨u13, h13⟩ := zn1 (leA v13 4)
 simp only [<- h13] at L13 y13 |-
 obtain ⟨u14, h14⟩ := zn1 (leA v14 4)
 simp only [<- h14] at L14 y14 |-
 obtain ⟨u15, h15⟩ := zn1 (leA v15 4)
 simp only [<- h15] at L15 y15 |-
 obtain ⟨u16, h16⟩ := zn1 (leA v16 4)
 simp only [<- h16] at L16 y16 |-
 obtain ⟨u17, h17⟩ := zn1 (leA v17 4)
 simp only [<- h17] at L17 y17 |-
 obtain ⟨u18, h18⟩ := zn1 (leA v18 4)
 simp only [<- h18] at L18 y18 |-
 obtain ⟨u19, h19⟩ := zn1 (wideS v19 v20)
 simp only [<- h19] at L19 y19 |-
 obtain ⟨u20, h20⟩ := zn1 (wideS v21 v22)
 simp only [<- h20] at L20 y20 |-
 obtain ⟨s1, g1, z1, a1⟩ := add_in u0 u1 (by omega)
 obtain ⟨s2, g2, z2, a2⟩ := add_in s1 u2 (by omega)
 obtain ⟨s3, g3, z3, a3⟩ := add_in s2 u3 (by omega)
 obtain ⟨s4, g4, z4, a4⟩ := add_in s3 u4 (by omega)
 obtain ⟨s5, g5, z5, a5⟩ := add_in s4 u5 (by omega)
 obtain ⟨s6, g6, z6, a6⟩ := add_in s5 u6 (by omega)
 obtain ⟨s7, g7, z7, a7⟩ := add_in s6 u7 (by omega)
 obtain ⟨s8, g8, z8, a8⟩ := add_in s7 u8 (by omega)
 obtain ⟨s9, g9, z9, a9⟩ := add_in s8 u9 (by omega)
 obtain ⟨s10, g10, z10, a10⟩ := add_in s9 u10 (by omega)
 obtain ⟨s11, g11, z11, a11⟩ := add_in s10 u11 (by omega)
 obtain ⟨s12, g12, z12, a12⟩ := add_in s11 u12 (by omega)
 obtain ⟨s13, g13, z13, a13⟩ := add_in s12 u13 (by omega)
 obtain ⟨s14, g14, z14, a14⟩ := add_in s13 u14 (by omega)
 obtain ⟨s15, g15, z15, a15⟩ := add_in s14 u15 (by omega)
 obtain ⟨s16, g16, z16, a16⟩ := add_in s15 u16 (by omega)
 obtain ⟨s17, g17, z17, a17⟩ := add_in s16 u17 (by omega)
 obtain ⟨s18, g18, z18, a18⟩ := add_in s17 u18 (by omega)
 obtain ⟨s19, g19, z19, a19⟩ := add_in s18 u19 (by omega)
 obtain ⟨s20, g20, z20, a20⟩ := add_in s19 u20 (by omega)
 rw [<- g1]
 rw [<- g2]
 rw [<- g3]
 rw [<- g4]
 rw [<- g5]
 rw [<- g6]
 rw [<- g7]
 rw [<- g8]
 rw [<- g9]
 rw [<- g10]
 rw [<- g11]
 rw [<- g12]
 rw [<- g13]
 rw [<- g14]
 rw [<- g15]
 rw [<- g16]
 rw [<- g17]
 rw [<- g18]
 rw [<- g19]
 rw [<- g20]
 clear h0 h1 h2 h3 h4 h5 h6 h7 h8 h9 h10 h11 h12 h13 h14 h15 h16 h17 h18 h19 h20 g1 z1 g2 z2 g3 z3 g4 z4 g5 z5 g6 z6 g7 z7 g8 z8 g9 z9 g10 z10 g11 z11 g12 z12 g13 z13 g14 z14 g15 z15 g16 z16 g17 z17 g18 z18 g19 z19 g20 z20 y0 y1 y2 y3 y4 y5 y6 y7 y8 y9 y10 y11 y12 y13 y14 y15 y16 y17 y18 y19 y20
 have bx0 : BoxAt (w.alloc (.cells #[.int .i64 v0, .int .i64 v1, .int .i64 v2, .int .i64 v3, .int .i64 v4, .int .i64 v5, .int .i64 v6, .int .i64 v7, .int .i64 v8, .int .i64 v9, .int .i64 v10, .int .i64 v11, .int .i64 v12, .int .i64 v13, .int .i64 v14, .int .i64 v15, .int .i64 v16, .int .i64 v17, .int .i64 v18, .int .i64 v19, .int .i64 v20, .int .i64 v21, .int .i64 v22] 71)).drew w.heap.size [.int .i64 v0, .int .i64 v1, .int .i64 v2, .int .i64 v3, .int .i64 v4, .int .i64 v5, .int .i64 v6, .int .i64 v7, .int .i64 v8, .int .i64 v9, .int .i64 v10, .int .i64 v11, .int .i64 v12, .int .i64 v13, .int .i64 v14, .int .i64 v15, .int .i64 v16, .int .i64 v17, .int .i64 v18, .int .i64 v19, .int .i64 v20, .int .i64 v21, .int .i64 v22] := (BoxAt.new w [.int .i64 v0, .int .i64 v1, .int .i64 v2, .int .i64 v3, .int .i64 v4, .int .i64 v5, .int .i64 v6, .int .i64 v7, .int .i64 v8, .int .i64 v9, .int .i64 v10, .int .i64 v11, .int .i64 v12, .int .i64 v13, .int .i64 v14, .int .i64 v15, .int .i64 v16, .int .i64 v17, .int .i64 v18, .int .i64 v19, .int .i64 v20, .int .i64 v21, .int .i64 v22] _).drew
 have hk0 : Kept [] w (w.alloc (.cells #[.int .i64 v0, .int .i64 v1, .int .i64 v2, .int .i64 v3, .int .i64 v4, .int .i64 v5, .int .i64 v6, .int .i64 v7, .int .i64 v8, .int .i64 v9, .int .i64 v10, .int .i64 v11, .int .i64 v12, .int .i64 v13, .int .i64 v14, .int .i64 v15, .int .i64 v16, .int .i64 v17, .int .i64 v18, .int .i64 v19, .int .i64 v20, .int .i64 v21, .int .i64 v22] 71)).drew := ((Kept.refl _ _).alloc _).drew
 go_enter func107, ntmps107
 go_upto_region 1 with fail
 go_region_held3 (fun w' => w'.cell? ⟨w.heap.size, 0, none⟩ = some (.int .i64 v0) /\ w'.cell? ⟨w.heap.size, 1, none⟩ = some (.int .i64 v1) /\ w'.cell? ⟨w.heap.size, 2, none⟩ = some (.int .i64 v2) /\ w'.cell? ⟨w.heap.size, 3, none⟩ = some (.int .i64 v3) /\ w'.cell? ⟨w.heap.size, 4, none⟩ = some (.int .i64 v4)) (first | go_keep | exact ⟨bx1.cell 0 _ rfl, bx1.cell 1 _ rfl, bx1.cell 2 _ rfl, bx1.cell 3 _ rfl, bx1.cell 4 _ rfl⟩ | exact ⟨bx2.cell 0 _ rfl, bx2.cell 1 _ rfl, bx2.cell 2 _ rfl, bx2.cell 3 _ rfl, bx2.cell 4 _ rfl⟩ | exact ⟨bx3.cell 0 _ rfl, bx3.cell 1 _ rfl, bx3.cell 2 _ rfl, bx3.cell 3 _ rfl, bx3.cell 4 _ rfl⟩ | exact ⟨bx4.cell 0 _ rfl, bx4.cell 1 _ rfl, bx4.cell 2 _ rfl, bx4.cell 3 _ rfl, bx4.cell 4 _ rfl⟩ | exact ⟨bx5.cell 0 _ rfl, bx5.cell 1 _ rfl, bx5.cell 2 _ rfl, bx5.cell 3 _ rfl, bx5.cell 4 _ rfl⟩) (first | (go_at_call_of 147 (Value.int IntKind.i64 (v0 : Int)); refine (L0 _).out.mono ?_; rintro e w1 ⟨rfl, kk1⟩; have bx1 := bx0.more kk1) | (go_at_call_of 147 (Value.int IntKind.i64 (v1 : Int)); refine (L1 _).out.mono ?_; rintro e w2 ⟨rfl, kk2⟩; have bx2 := bx1.more kk2) | (go_at_call_of 147 (Value.int IntKind.i64 (v2 : Int)); refine (L2 _).out.mono ?_; rintro e w3 ⟨rfl, kk3⟩; have bx3 := bx2.more kk3) | (go_at_call_of 147 (Value.int IntKind.i64 (v3 : Int)); refine (L3 _).out.mono ?_; rintro e w4 ⟨rfl, kk4⟩; have bx4 := bx3.more kk4) | (go_at_call_of 147 (Value.int IntKind.i64 (v4 : Int)); refine (L4 _).out.mono ?_; rintro e w5 ⟨rfl, kk5⟩; have bx5 := bx4.more kk5))
 all_goals
  have by1 := bx5.drew
  have hk1 := (((((hk0.trans kk1).trans kk2).trans kk3).trans kk4).trans kk5).drew
  have d1_5 := bx5.cell 5 _ rfl
  have d1_6 := bx5.cell 6 _ rfl
  have d1_7 := bx5.cell 7 _ rfl
  clear bx0 hk0 bx1 bx2 bx3 bx4 bx5 kk1 kk2 kk3 kk4 kk5
  go_upto_region 2 with fail
  go_region_held3 (fun w' => w'.cell? ⟨w.heap.size, 5, none⟩ = some (.int .i64 v5) /\ w'.cell? ⟨w.heap.size, 6, none⟩ = some (.int .i64 v6) /\ w'.cell? ⟨w.heap.size, 7, none⟩ = some (.int .i64 v7)) (first | go_keep | exact ⟨bx6.cell 5 _ rfl, bx6.cell 6 _ rfl, bx6.cell 7 _ rfl⟩ | exact ⟨bx7.cell 5 _ rfl, bx7.cell 6 _ rfl, bx7.cell 7 _ rfl⟩ | exact ⟨bx8.cell 5 _ rfl, bx8.cell 6 _ rfl, bx8.cell 7 _ rfl⟩) (first | (go_at_call_of 147 (Value.int IntKind.i64 (v5 : Int)); refine (L5 _).out.mono ?_; rintro e w6 ⟨rfl, kk6⟩; have bx6 := by1.more kk6) | (go_at_call_of 147 (Value.int IntKind.i64 (v6 : Int)); refine (L6 _).out.mono ?_; rintro e w7 ⟨rfl, kk7⟩; have bx7 := bx6.more kk7) | (go_at_call_of 147 (Value.int IntKind.i64 (v7 : Int)); refine (L7 _).out.mono ?_; rintro e w8 ⟨rfl, kk8⟩; have bx8 := bx7.more kk8))
  all_goals
   have by2 := bx8.drew
   have hk2 := (((hk1.trans kk6).trans kk7).trans kk8).drew
   have d2_8 := bx8.cell 8 _ rfl
   have d2_9 := bx8.cell 9 _ rfl
   have d2_10 := bx8.cell 10 _ rfl
   have d2_11 := bx8.cell 11 _ rfl
   clear by1 hk1 bx6 bx7 bx8 kk6 kk7 kk8
   go_upto_region 3 with fail
   go_region_held3 (fun w' => w'.cell? ⟨w.heap.size, 8, none⟩ = some (.int .i64 v8) /\ w'.cell? ⟨w.heap.size, 9, none⟩ = some (.int .i64 v9) /\ w'.cell? ⟨w.heap.size, 10, none⟩ = some (.int .i64 v10) /\ w'.cell? ⟨w.heap.size, 11, none⟩ = some (.int .i64 v11)) (first | go_keep | exact ⟨bx9.cell 8 _ rfl, bx9.cell 9 _ rfl, bx9.cell 10 _ rfl, bx9.cell 11 _ rfl⟩ | exact ⟨bx10.cell 8 _ rfl, bx10.cell 9 _ rfl, bx10.cell 10 _ rfl, bx10.cell 11 _ rfl⟩ | exact ⟨bx11.cell 8 _ rfl, bx11.cell 9 _ rfl, bx11.cell 10 _ rfl, bx11.cell 11 _ rfl⟩ | exact ⟨bx12.cell 8 _ rfl, bx12.cell 9 _ rfl, bx12.cell 10 _ rfl, bx12.cell 11 _ rfl⟩) (first | (go_at_call_of 147 (Value.int IntKind.i64 (v8 : Int)); refine (L8 _).out.mono ?_; rintro e w9 ⟨rfl, kk9⟩; have bx9 := by2.more kk9) | (go_at_call_of 147 (Value.int IntKind.i64 (v9 : Int)); refine (L9 _).out.mono ?_; rintro e w10 ⟨rfl, kk10⟩; have bx10 := bx9.more kk10) | (go_at_call_of 147 (Value.int IntKind.i64 (v10 : Int)); refine (L10 _).out.mono ?_; rintro e w11 ⟨rfl, kk11⟩; have bx11 := bx10.more kk11) | (go_at_call_of 147 (Value.int IntKind.i64 (v11 : Int)); refine (L11 _).out.mono ?_; rintro e w12 ⟨rfl, kk12⟩; have bx12 := bx11.more kk12))
   all_goals
    have by3 := bx12.drew
    have hk3 := ((((hk2.trans kk9).trans kk10).trans kk11).trans kk12).drew
    have d3_12 := bx12.cell 12 _ rfl
    have d3_13 := bx12.cell 13 _ rfl
    clear by2 hk2 bx9 bx10 bx11 bx12 kk9 kk10 kk11 kk12
    go_upto_region 4 with fail
    go_region_held3 (fun w' => w'.cell? ⟨w.heap.size, 12, none⟩ = some (.int .i64 v12) /\ w'.cell? ⟨w.heap.size, 13, none⟩ = some (.int .i64 v13)) (first | go_keep | exact ⟨bx13.cell 12 _ rfl, bx13.cell 13 _ rfl⟩ | exact ⟨bx14.cell 12 _ rfl, bx14.cell 13 _ rfl⟩) (first | (go_at_call_of 147 (Value.int IntKind.i64 (v12 : Int)); refine (L12 _).out.mono ?_; rintro e w13 ⟨rfl, kk13⟩; have bx13 := by3.more kk13) | (go_at_call_of 147 (Value.int IntKind.i64 (v13 : Int)); refine (L13 _).out.mono ?_; rintro e w14 ⟨rfl, kk14⟩; have bx14 := bx13.more kk14))
    all_goals
     have by4 := bx14.drew
     have hk4 := ((hk3.trans kk13).trans kk14).drew
     have d4_14 := bx14.cell 14 _ rfl
     have d4_15 := bx14.cell 15 _ rfl
     have d4_16 := bx14.cell 16 _ rfl
     have d4_17 := bx14.cell 17 _ rfl
     clear by3 hk3 bx13 bx14 kk13 kk14
     go_upto_region 5 with fail
     go_region_held3 (fun w' => w'.cell? ⟨w.heap.size, 14, none⟩ = some (.int .i64 v14) /\ w'.cell? ⟨w.heap.size, 15, none⟩ = some (.int .i64 v15) /\ w'.cell? ⟨w.heap.size, 16, none⟩ = some (.int .i64 v16) /\ w'.cell? ⟨w.heap.size, 17, none⟩ = some (.int .i64 v17)) (first | go_keep | exact ⟨bx15.cell 14 _ rfl, bx15.cell 15 _ rfl, bx15.cell 16 _ rfl, bx15.cell 17 _ rfl⟩ | exact ⟨bx16.cell 14 _ rfl, bx16.cell 15 _ rfl, bx16.cell 16 _ rfl, bx16.cell 17 _ rfl⟩ | exact ⟨bx17.cell 14 _ rfl, bx17.cell 15 _ rfl, bx17.cell 16 _ rfl, bx17.cell 17 _ rfl⟩ | exact ⟨bx18.cell 14 _ rfl, bx18.cell 15 _ rfl, bx18.cell 16 _ rfl, bx18.cell 17 _ rfl⟩) (first | (go_at_call_of 147 (Value.int IntKind.i64 (v14 : Int)); refine (L14 _).out.mono ?_; rintro e w15 ⟨rfl, kk15⟩; have bx15 := by4.more kk15) | (go_at_call_of 147 (Value.int IntKind.i64 (v15 : Int)); refine (L15 _).out.mono ?_; rintro e w16 ⟨rfl, kk16⟩; have bx16 := bx15.more kk16) | (go_at_call_of 147 (Value.int IntKind.i64 (v16 : Int)); refine (L16 _).out.mono ?_; rintro e w17 ⟨rfl, kk17⟩; have bx17 := bx16.more kk17) | (go_at_call_of 147 (Value.int IntKind.i64 (v17 : Int)); refine (L17 _).out.mono ?_; rintro e w18 ⟨rfl, kk18⟩; have bx18 := bx17.more kk18))
     all_goals
      have by5 := bx18.drew
      have hk5 := ((((hk4.trans kk15).trans kk16).trans kk17).trans kk18).drew
      have d5_18 := bx18.cell 18 _ rfl
      have d5_19 := bx18.cell 19 _ rfl
      have d5_20 := bx18.cell 20 _ rfl
      have d5_21 := bx18.cell 21 _ rfl
      have d5_22 := bx18.cell 22 _ rfl
      clear by4 hk4 bx15 bx16 bx17 bx18 kk15 kk16 kk17 kk18
      go_upto_region 6 with fail
      go_region_held3 (fun w' => w'.cell? ⟨w.heap.size, 18, none⟩ = some (.int .i64 v18) /\ w'.cell? ⟨w.heap.size, 19, none⟩ = some (.int .i64 v19) /\ w'.cell? ⟨w.heap.size, 20, none⟩ = some (.int .i64 v20) /\ w'.cell? ⟨w.heap.size, 21, none⟩ = some (.int .i64 v21) /\ w'.cell? ⟨w.heap.size, 22, none⟩ = some (.int .i64 v22)) (first | go_keep | exact ⟨bx19.cell 18 _ rfl, bx19.cell 19 _ rfl, bx19.cell 20 _ rfl, bx19.cell 21 _ rfl, bx19.cell 22 _ rfl⟩ | exact ⟨bx20.cell 18 _ rfl, bx20.cell 19 _ rfl, bx20.cell 20 _ rfl, bx20.cell 21 _ rfl, bx20.cell 22 _ rfl⟩ | exact ⟨bx21.cell 18 _ rfl, bx21.cell 19 _ rfl, bx21.cell 20 _ rfl, bx21.cell 21 _ rfl, bx21.cell 22 _ rfl⟩) (first | (go_at_call_of 147 (Value.int IntKind.i64 (v18 : Int)); refine (L18 _).out.mono ?_; rintro e w19 ⟨rfl, kk19⟩; have bx19 := by5.more kk19) | (go_at_call_of 149 (Value.agg #[Value.int IntKind.i64 (v19 : Int), Value.int IntKind.i64 (v20 : Int)]); refine (L19 _).out.mono ?_; rintro e w20 ⟨rfl, kk20⟩; have bx20 := bx19.more kk20) | (go_at_call_of 149 (Value.agg #[Value.int IntKind.i64 (v21 : Int), Value.int IntKind.i64 (v22 : Int)]); refine (L20 _).out.mono ?_; rintro e w21 ⟨rfl, kk21⟩; have bx21 := bx20.more kk21))
      all_goals
       go_wp2_with fail
       go_ret
       exact ⟨rfl, (((hk5.trans kk19).trans kk20).trans kk21)⟩
theorem x_csrShow (X : XS) (w : World) : CK 107 #[.agg (csL X).toArray] (.string (csrS X)) w :=
 x_csrShow' X.c.mstatus X.c.medeleg X.c.mideleg X.c.mie X.c.mip X.c.mtvec X.c.mcen X.c.minh X.c.mscratch X.c.mepc X.c.mcause X.c.mtval X.c.stvec X.c.scen X.c.sscratch X.c.sepc X.c.scause X.c.stval X.c.satp X.c.cyc X.c.cych X.c.ret X.c.reth w
def regG (x : List Nat) : Nat -> Nat -> ByteArray -> ByteArray
 | 0, _, s => s
 | n + 1, k, s => regG x n (k + 1) (s ++ leA (x.getD k 0) 4)
theorem regG_size (x : List Nat) : ∀ (n k : Nat) (s : ByteArray), (regG x n k s).size = s.size + 4 * n
 | 0, _, _ => rfl
 | n + 1, k, s => by
  rw [regG, regG_size x n, ByteArray.size_append, leA_size]; omega
def hartS (X : XS) : ByteArray := (((regG X.x 32 0 (leA X.pc 4) ++ (if X.waits = true then ⟨#[119]⟩ else ⟨#[45]⟩)) ++ (if X.resd = true then ⟨#[114]⟩ else ⟨#[45]⟩)) ++ leA X.resv 5) ++ leA X.mode 1
structure HartL (X : XS) (cs : List Value) : Prop where
 x : ∀ k, k < 32 -> cs[k]? = some (.int .i64 (X.x.getD k 0))
 pc : cs[32]? = some (.int .i64 X.pc)
 mode : cs[33]? = some (.int .i64 X.mode)
 waits : cs[34]? = some (.bool X.waits)
 resd : cs[35]? = some (.bool X.resd)
 resv : cs[36]? = some (.int .i64 X.resv)
 len : cs.length = 37
theorem x_hartShow' (X : XS) (cs : List Value) (hc : Hid (HartL X cs)) (w : World) :
 CK 106 #[.agg cs.toArray] (.string (hartS X)) w := by
 have L1 := fun W => hide1 (l_Le (X.pc : Int) 4 (by decide) W)
 have y1 := leA_size (X.pc : Int) 4
 obtain ⟨u1, h1⟩ := zn1 (leA X.pc 4)
 unfold hartS
 simp only [<- h1] at L1 y1 |-
 clear h1
 have HL := hide1 hc.out.len
 have bx0 := BoxAt.new w cs 67
 have c32 := hc.out.pc
 have hk0 : Kept [] w (w.alloc (.cells cs.toArray 67)) := zq136
 obtain ⟨T, hT⟩ := zn1 (regG X.x 32 0 u1)
 have zT : T.size = 132 := by rw [hT, regG_size]; omega
 rw [<- hT]
 have HT := hide1 hT
 clear hT
 have L2 := fun W => hide1 (x_eith X.waits ⟨#[119]⟩ ⟨#[45]⟩ W)
 have L3 := fun W => hide1 (x_eith X.resd ⟨#[114]⟩ ⟨#[45]⟩ W)
 have L4 := fun W => hide1 (l_Le (X.resv : Int) 5 (by decide) W)
 have L5 := fun W => hide1 (l_Le (X.mode : Int) 1 (by decide) W)
 have y2 : (if X.waits = true then (⟨#[119]⟩ : ByteArray) else ⟨#[45]⟩).size = 1 := by cases X.waits <;> rfl
 have y3 : (if X.resd = true then (⟨#[114]⟩ : ByteArray) else ⟨#[45]⟩).size = 1 := by cases X.resd <;> rfl
 have y4 := leA_size (X.resv : Int) 5
 have y5 := leA_size (X.mode : Int) 1
 obtain ⟨u2, h2⟩ := zn1 ((if X.waits = true then (⟨#[119]⟩ : ByteArray) else ⟨#[45]⟩))
 obtain ⟨u3, h3⟩ := zn1 ((if X.resd = true then (⟨#[114]⟩ : ByteArray) else ⟨#[45]⟩))
 obtain ⟨u4, h4⟩ := zn1 (leA X.resv 5)
 obtain ⟨u5, h5⟩ := zn1 (leA X.mode 1)
 simp only [<- h2, <- h3, <- h4, <- h5] at L2 L3 L4 L5 y2 y3 y4 y5 |-
 obtain ⟨s2, g2, z2, a2⟩ := add_in T u2 (by omega)
 obtain ⟨s3, g3, z3, a3⟩ := add_in s2 u3 (by omega)
 obtain ⟨s4, g4, z4, a4⟩ := add_in s3 u4 (by omega)
 obtain ⟨s5, g5, z5, a5⟩ := add_in s4 u5 (by omega)
 rw [<- g2, <- g3, <- g4, <- g5]
 clear h2 h3 h4 h5 g2 g3 g4 g5 z2 z3 z4 z5 y2 y3 y4 y5
 obtain ⟨pc, hpc⟩ := zn1 (X.pc)
 have c33 := hc.out.mode
 have c34 := hc.out.waits
 have c35 := hc.out.resd
 have c36 := hc.out.resv
 go_enter func106, ntmps106
 go_wp2_with fail
 refine (L1 _).out.mono ?_
 rintro e w1 ⟨rfl, hk1⟩
 have bx1 := hide1 (bx0.more hk1)
 have hk2 := hide1 (hk0.trans hk1)
 clear bx0 hk0 hk1 L1 c32
 go_wp2_with fail
 go_loopw [3, 4] (fun c d wr => ∃ (k : Nat) (t : ByteArray), k <= 32 /\ c = .string t /\ d = .int .i64 k /\ Hid (t.size = 4 + 4 * k) /\ Hid (BoxAt wr w.heap.size cs) /\ Hid (Kept [] w wr) /\ Hid (T = regG X.x (32 - k) k t)) (fun _ d _ => 32 - (intOf d).toNat)
 case atStart => exact ⟨0, u1, by omega, rfl, rfl, hide1 (by omega), bx1, hk2, HT⟩
 case round =>
  obtain ⟨k, t, hk, rfl, rfl, hts, hb, hkr, hg⟩ := hrel
  clear HT bx1 hk2
  by_cases hlt : k < 32
  . have hlt' : decide ((k : Int) < 32) = true := by simp; omega
    have ck := hb.out.cell k _ (hc.out.x k hlt)
    obtain ⟨v, hv⟩ := zn1 (X.x.getD k 0)
    have hg2 : Hid (T = regG X.x (32 - (k + 1)) (k + 1) (t ++ leA v 4)) := by
     show T = _
     rw [hg.out, show 32 - k = (32 - (k + 1)) + 1 by omega, hv]; rfl
    rw [<- hv] at ck
    have LV := fun W => hide1 (l_Le (v : Int) 4 (by decide) W)
    have yv := leA_size (v : Int) 4
    obtain ⟨u, hu⟩ := zn1 (leA v 4)
    rw [<- hu] at hg2 yv
    simp only [<- hu] at LV
    have htz := hts.out
    obtain ⟨t2, gt, zt, at2⟩ := add_in t u (by omega)
    rw [<- gt] at hg2
    have hz2 : Hid (t2.size = 4 + 4 * (k + 1)) := hide1 (by omega)
    clear hg hv hu gt zt htz hts yv
    have hkk : (k : Int) < 32 := by omega
    go_wp2_with fail
    refine (LV _).out.mono ?_
    rintro e w2 ⟨rfl, hk2⟩
    have hb2 := hide1 (hb.out.more hk2)
    have hkr2 := hide1 (hkr.out.trans hk2)
    go_wp2_with fail
    go_roundw
    case rel => exact ⟨k + 1, t2, by omega, rfl, by go_num, hz2, hb2, hkr2, hg2⟩
    case measure => exact zq191
  . have hlt' : decide ((k : Int) < 32) = false := by simp; omega
    have hTT : T = t := by rw [hg.out, show 32 - k = 0 by omega]; rfl
    subst hTT
    have d34 := hb.out.cell 34 _ c34
    have d35 := hb.out.cell 35 _ c35
    have d33 := hb.out.cell 33 _ c33
    have d36 := hb.out.cell 36 _ c36
    clear hg hts zT
    obtain ⟨wa, hwa⟩ := zn1 (X.waits)
    obtain ⟨re, hre⟩ := zn1 (X.resd)
    obtain ⟨rv, hrv⟩ := zn1 (X.resv)
    obtain ⟨mo, hmo⟩ := zn1 (X.mode)
    simp only [<- hwa, <- hre, <- hrv, <- hmo] at *
    clear hwa hre hrv hmo hc
    go_upto_region 6 with fail
    go_region_held3 (fun w' => w'.cell? ⟨w.heap.size, 34, none⟩ = some (.bool wa) /\ w'.cell? ⟨w.heap.size, 35, none⟩ = some (.bool re)) (go_keep) (first | (go_at_call_of 148 (Value.bool wa); refine (L2 _).out.mono ?_; rintro e w3 ⟨rfl, rfl⟩) | (go_at_call_of 148 (Value.bool re); refine (L3 _).out.mono ?_; rintro e w4 ⟨rfl, rfl⟩))
    all_goals
     have bx5 := hb.out.drew.drew
     have hk5 := hkr.out.drew.drew
     go_upto_region 7 with fail
     go_region_held3 (fun w' => w'.cell? ⟨w.heap.size, 36, none⟩ = some (.int .i64 rv) /\ w'.cell? ⟨w.heap.size, 33, none⟩ = some (.int .i64 mo)) (first | go_keep | exact ⟨bx6.cell 36 _ c36, bx6.cell 33 _ c33⟩ | exact ⟨bx7.cell 36 _ c36, bx7.cell 33 _ c33⟩) (first | (go_at_call_of 147 (Value.int IntKind.i64 (rv : Int)); refine (L4 _).out.mono ?_; rintro e w6 ⟨rfl, hk6⟩; have bx6 := bx5.more hk6) | (go_at_call_of 147 (Value.int IntKind.i64 (mo : Int)); refine (L5 _).out.mono ?_; rintro e w7 ⟨rfl, hk7⟩; have bx7 := bx6.more hk7))
     all_goals
      go_wp2_with fail
      go_ret
      exact ⟨rfl, (hk5.trans hk6).trans hk7⟩
def hartL (X : XS) : List Value := ((xL 0 X).drop 1).take 37
def tmrL (B : BusS) : List Value := [.int .i64 B.msip, .int .i64 B.time, .int .i64 B.timeh, .int .i64 B.cmp, .int .i64 B.cmph]
def prtL (B : BusS) : List Value := [.int .i64 B.enable, .int .i64 B.scratch, .bool B.lost, .string B.rx, .string B.tx]
theorem tk {P : Program} {ops : Array Oper} {Q : Exit -> Act -> World -> Prop} {md : Region.Mode} {S : World -> Prop} {fuel : Nat} {listed : Array Bool} {a b : Act} {w : World} (i d : Nat) (v : Value) (hS : S w) (h : wpAnyH P md ops Q S fuel (listed.setIfInBounds i true) b w) {o : Oper} (hi : ops[i]? = some o := by rfl) (hd : o.dst = some d := by rfl) (hs : Region.noSelect ops = true := by kernel_rfl) (hf : Region.free md ops listed i = true := by kernel_rfl) (hr : (Region.ready md ops listed).contains i = true := by kernel_rfl) (hQ : ∀ c a w, Q (.panic c) (a.put (some d) v) w -> Q (.panic c) a w := by exact fun _ _ _ h => h) (hy : YieldsIf P ops S o v a := by exact Or.inl ⟨by kernel_rfl, fun w hSw => by go_simp⟩) (hb : a.put (some d) v = b := by simp only [Act.put, List.setIfInBounds_toArray, List.set_cons_zero, List.set_cons_succ]; rfl) : wpAnyH P md ops Q S (fuel + 1) listed a w :=
 wpAnyH_take hi hs hf hr (by rw [hd]; exact hQ) hy hS (by rw [hd, hb]; exact h)
theorem hartL_ok (X : XS) : HartL X (hartL X) := by
 refine ⟨fun k hk => ?_, rfl, rfl, rfl, rfl, rfl, rfl⟩
 rcases k with _ | _ | _ | _ | _ | _ | _ | _ | _ | _ | _ | _ | _ | _ | _ | _ | _ | _ | _ | _ | _ | _ | _ | _ | _ | _ | _ | _ | _ | _ | _ | _ | k
 all_goals first | rfl | omega
theorem XAt.sub {w mb rb X} (h : XAt w mb rb X) (o : Nat) (cs : List Value) (e : ∀ j, j < cs.length -> (xL rb X)[o + j]? = cs[j]?) (hl : o + cs.length <= 71) : w.rangeAt mb o cs := fun j v hv => by
 have hj := (List.getElem?_eq_some_iff.1 hv).1
 rw [h.cell (o + j) (by omega), e j hj, hv]
theorem XAt.hartR {w mb rb X} (h : XAt w mb rb X) : w.rangeAt mb 1 (hartL X) := h.sub 1 _ (fun j hj => by
 have hj : j < 37 := hj
 show _ = (((xL 0 X).drop 1).take 37)[j]?
 rw [List.getElem?_take_of_lt hj, List.getElem?_drop, Nat.add_comm]
 rfl) (by show 1 + 37 <= 71; decide)
theorem XAt.tmrR {w mb rb X} (h : XAt w mb rb X) : w.rangeAt mb 61 (tmrL X.b) := h.sub 61 _ (fun j hj => by
 have hj : j < 5 := hj
 rcases j with _ | _ | _ | _ | _ | j
 all_goals first | rfl | omega) (by show _ + 5 <= 71; decide)
theorem XAt.prtR {w mb rb X} (h : XAt w mb rb X) : w.rangeAt mb 66 (prtL X.b) := h.sub 66 _ (fun j hj => by
 have hj : j < 5 := hj
 rcases j with _ | _ | _ | _ | _ | j
 all_goals first | rfl | omega) (by show _ + 5 <= 71; decide)
def showX (X : XS) : ByteArray := ((hartS X ++ csrS X) ++ timerS X.b) ++ portS X.b
theorem hartS_size (X : XS) : (hartS X).size = 140 := by
 have h1 : (if X.waits = true then (⟨#[119]⟩ : ByteArray) else ⟨#[45]⟩).size = 1 := by cases X.waits <;> rfl
 have h2 : (if X.resd = true then (⟨#[114]⟩ : ByteArray) else ⟨#[45]⟩).size = 1 := by cases X.resd <;> rfl
 unfold hartS
 simp only [ByteArray.size_append, leA_size, regG_size, h1, h2]
theorem csrS_size (X : XS) : (csrS X).size = 92 := by
 unfold csrS
 simp only [ByteArray.size_append, leA_size, wideS_size]
theorem timerS_size (B : BusS) : (timerS B).size = 17 := by
 unfold timerS
 simp only [ByteArray.size_append, leA_size, wideS_size]
theorem portS_size (B : BusS) : (portS B).size = 5 + B.rx.size + B.tx.size := by
 have h1 : (if B.lost = true then (⟨#[33]⟩ : ByteArray) else ⟨#[46]⟩).size = 1 := by cases B.lost <;> rfl
 unfold portS
 simp only [ByteArray.size_append, leA_size, h1]; omega
theorem x_Show (mb rb X) (hX : XOk X) (w) (hw : Hid (XAt w mb rb X)) :
 CK 63 #[.pointer (some ⟨mb, 0, none⟩)] (.string (showX X)) w := by
 have HS := fun W => hide1 (x_hartShow' X (hartL X) (hide1 (hartL_ok X)) W)
 have CS := fun W => hide1 (x_csrShow X W)
 have TS := fun W => hide1 (x_timerShow X.b W)
 have PS := fun W => hide1 (x_portShow X.b hX.b.rx hX.b.tx W)
 have z1 := hartS_size X
 have z2 := csrS_size X
 have z3 := timerS_size X.b
 have z4 := portS_size X.b
 have r4 := hX.b.rx
 have r8 := hX.b.tx
 have LD : Hid (∀ W, XAt W mb rb X -> W.rangeAt mb 1 (hartL X) /\ W.rangeAt mb 38 (csL X) /\ W.rangeAt mb 61 (tmrL X.b) /\ W.rangeAt mb 66 (prtL X.b)) := fun W h => ⟨h.hartR, csL_at h, h.tmrR, h.prtR⟩
 have n1 : (hartL X).length = 37 := rfl
 have n2 : (csL X).length = 23 := rfl
 have n3 : (tmrL X.b).length = 5 := rfl
 have n4 : (prtL X.b).length = 5 := rfl
 have hT : Value.agg #[.int .i64 X.b.msip, .int .i64 X.b.time, .int .i64 X.b.timeh, .int .i64 X.b.cmp, .int .i64 X.b.cmph] = .agg (tmrL X.b).toArray := rfl
 have hP : prtA X.b = .agg (prtL X.b).toArray := rfl
 rw [hT] at TS
 rw [hP] at PS
 clear hT hP
 unfold showX
 obtain ⟨A1, hA1⟩ := zn1 (hartL X)
 obtain ⟨A2, hA2⟩ := zn1 (csL X)
 obtain ⟨A3, hA3⟩ := zn1 (tmrL X.b)
 obtain ⟨A4, hA4⟩ := zn1 (prtL X.b)
 obtain ⟨s1, h1⟩ := zn1 (hartS X)
 obtain ⟨s2, h2⟩ := zn1 (csrS X)
 obtain ⟨s3, h3⟩ := zn1 (timerS X.b)
 obtain ⟨s4, h4⟩ := zn1 (portS X.b)
 simp only [<- hA1, <- hA2, <- hA3, <- hA4, <- h1, <- h2, <- h3, <- h4] at HS CS TS PS LD n1 n2 n3 n4 z1 z2 z3 z4 |-
 clear hA1 hA2 hA3 hA4 h1 h2 h3 h4
 obtain ⟨t2, g2, y2, a2⟩ := add_in s1 s2 (by omega)
 obtain ⟨t3, g3, y3, a3⟩ := add_in t2 s3 (by omega)
 obtain ⟨t4, g4, y4, a4⟩ := add_in t3 s4 (by omega)
 rw [<- g2, <- g3, <- g4]
 clear g2 g3 g4 y2 y3 y4 z1 z2 z3 z4 r4 r8 hX
 have hx0 := hide1 hw.out.drew
 have LD0 := LD.out _ hx0.out
 go_enter func63, ntmps63
 go_upto_region 1 with fail
 refine wp_region_held_drew (S := fun w' => w'.rangeAt mb 1 A1 /\ w'.rangeAt mb 38 A2 /\ w'.rangeAt mb 61 A3 /\ w'.rangeAt mb 66 A4) (by kernel_rfl) LD0 (fun hHeld => ?_)
 refine tk 0 3 (.pointer (some ⟨mb, 0, none⟩)) hHeld ?_
 refine tk 1 4 (.pointer (some ⟨mb, 0, none⟩)) hHeld ?_
 refine tk 2 5 (.pointer (some ⟨mb, 1, none⟩)) hHeld ?_
 refine wpAnyH_take (i := 3) (oi := ⟨some 6, .load 67 (.tmp 5), _, _, _, _⟩) (v := .agg A1.toArray) rfl (by kernel_rfl) (by kernel_rfl) (by kernel_rfl) (fun _ _ _ h => h) (yieldsIf_load_mid (by kernel_rfl) 67 (.tmp 5) rfl mb 1 (by kernel_rfl) A1 _ (fun w h => h.1) Tryz.underlying67 rfl (by rw [info67, n1])) hHeld ?_
 try simp only [Act.put, List.setIfInBounds_toArray, List.set_cons_zero, List.set_cons_succ]
 refine tk 5 8 (.pointer (some ⟨mb, 0, none⟩)) hHeld ?_
 refine tk 6 9 (.pointer (some ⟨mb, 0, none⟩)) hHeld ?_
 refine tk 7 10 (.pointer (some ⟨mb, 38, none⟩)) hHeld ?_
 refine wpAnyH_take (i := 8) (oi := ⟨some 11, .load 71 (.tmp 10), _, _, _, _⟩) (v := .agg A2.toArray) rfl (by kernel_rfl) (by kernel_rfl) (by kernel_rfl) (fun _ _ _ h => h) (yieldsIf_load_mid (by kernel_rfl) 71 (.tmp 10) rfl mb 38 (by kernel_rfl) A2 _ (fun w h => h.2.1) Tryz.underlying71 rfl (by rw [info71, n2])) hHeld ?_
 try simp only [Act.put, List.setIfInBounds_toArray, List.set_cons_zero, List.set_cons_succ]
 refine tk 11 14 (.pointer (some ⟨mb, 0, none⟩)) hHeld ?_
 refine tk 12 15 (.pointer (some ⟨mb, 0, none⟩)) hHeld ?_
 refine tk 13 16 (.pointer (some ⟨mb, 61, none⟩)) hHeld ?_
 refine wpAnyH_take (i := 14) (oi := ⟨some 17, .load 73 (.tmp 16), _, _, _, _⟩) (v := .agg A3.toArray) rfl (by kernel_rfl) (by kernel_rfl) (by kernel_rfl) (fun _ _ _ h => h) (yieldsIf_load_mid (by kernel_rfl) 73 (.tmp 16) rfl mb 61 (by kernel_rfl) A3 _ (fun w h => h.2.2.1) Tryz.underlying73 rfl (by rw [info73, n3])) hHeld ?_
 try simp only [Act.put, List.setIfInBounds_toArray, List.set_cons_zero, List.set_cons_succ]
 refine tk 17 20 (.pointer (some ⟨mb, 0, none⟩)) hHeld ?_
 refine tk 18 21 (.pointer (some ⟨mb, 0, none⟩)) hHeld ?_
 refine tk 19 22 (.pointer (some ⟨mb, 66, none⟩)) hHeld ?_
 refine wpAnyH_take (i := 20) (oi := ⟨some 23, .load 75 (.tmp 22), _, _, _, _⟩) (v := .agg A4.toArray) rfl (by kernel_rfl) (by kernel_rfl) (by kernel_rfl) (fun _ _ _ h => h) (yieldsIf_load_mid (by kernel_rfl) 75 (.tmp 22) rfl mb 66 (by kernel_rfl) A4 _ (fun w h => h.2.2.2) Tryz.underlying75 rfl (by rw [info75, n4])) hHeld ?_
 try simp only [Act.put, List.setIfInBounds_toArray, List.set_cons_zero, List.set_cons_succ]
 refine wpAnyH_ready (rs := [4]) (by kernel_rfl) (by simp) ?_
 refine AllReadyH.cons rfl (fun K hK => ?_) AllReadyH.nil
 go_simp
 refine (HS _).out.mono ?_
 rintro e w1 ⟨rfl, hk1⟩
 have hx1 := hide1 (hx0.out.kept hk1)
 refine hK.out _ _ (LD.out _ hx1.out) (fun hHeld => ?_)
 clear hK K
 try simp only [Act.put, List.setIfInBounds_toArray, List.set_cons_zero, List.set_cons_succ]
 refine wpAnyH_ready (rs := [9]) (by kernel_rfl) (by simp) ?_
 refine AllReadyH.cons rfl (fun K hK => ?_) AllReadyH.nil
 go_simp
 refine (CS _).out.mono ?_
 rintro e w2 ⟨rfl, hk2⟩
 have hx2 := hide1 (hx1.out.kept hk2)
 refine hK.out _ _ (LD.out _ hx2.out) (fun hHeld => ?_)
 clear hK K
 try simp only [Act.put, List.setIfInBounds_toArray, List.set_cons_zero, List.set_cons_succ]
 refine tk 10 13 (.string t2) hHeld ?_
 refine wpAnyH_ready (rs := [15]) (by kernel_rfl) (by simp) ?_
 refine AllReadyH.cons rfl (fun K hK => ?_) AllReadyH.nil
 go_simp
 refine (TS _).out.mono ?_
 rintro e w3 ⟨rfl, hk3⟩
 have hx3 := hide1 (hx2.out.kept hk3)
 refine hK.out _ _ (LD.out _ hx3.out) (fun hHeld => ?_)
 clear hK K
 try simp only [Act.put, List.setIfInBounds_toArray, List.set_cons_zero, List.set_cons_succ]
 refine tk 16 19 (.string t3) hHeld ?_
 refine wpAnyH_ready (rs := [21]) (by kernel_rfl) (by simp) ?_
 refine AllReadyH.cons rfl (fun K hK => ?_) AllReadyH.nil
 go_simp
 refine (PS _).out.mono ?_
 rintro e w4 ⟨rfl, hk4⟩
 have hx4 := hide1 (hx3.out.kept hk4)
 refine hK.out _ _ (LD.out _ hx4.out) (fun hHeld => ?_)
 clear hK K
 try simp only [Act.put, List.setIfInBounds_toArray, List.set_cons_zero, List.set_cons_succ]
 refine tk 22 25 (.string t4) hHeld ?_
 refine tk 23 2 (.string t4) hHeld ?_
 refine wpAnyH_done (by kernel_rfl) ?_ _
 all_goals
  go_wp2_with fail
  go_ret
  exact ⟨rfl, ((((Kept.refl _ _).drew.trans hk1).trans hk2).trans hk3).trans hk4⟩
theorem Below.k {w w' : World} (h : Below w.heap.size w w') : Kept [] w w' := Below.kept h []
section
attribute [local go_sem ↓] Go.wp_at_zero Go.wp_at_succ
def arrG : List UInt8 -> BusS -> BusS
 | [], B => B
 | c :: t, B => arrG t (arrB B (c.toNat : Int))
theorem arr_same (B : BusS) (b : Int) : SameBut5 B (arrB B b) := by
 unfold arrB
 split <;> exact ⟨rfl, rfl, rfl, rfl, rfl, rfl⟩
theorem arr_rx (B : BusS) (b : Int) (h : B.rx.size <= 4) : B.rx.size <= (arrB B b).rx.size /\ (arrB B b).rx.size <= 4 := by
 unfold arrB
 split
 . dsimp only
   rw [ByteArray.size_append, strNumsR_size, leLR_length]; omega
 . exact ⟨Nat.le_refl _, h⟩
theorem arrG_rx : ∀ (l : List UInt8) (B : BusS), B.rx.size <= 4 -> B.rx.size <= (arrG l B).rx.size /\ (arrG l B).rx.size <= 4
 | [], B, h => ⟨Nat.le_refl _, h⟩
 | c :: t, B, h => by
  have h1 := arr_rx B (c.toNat : Int) h
  have h2 := arrG_rx t _ h1.2
  exact ⟨Nat.le_trans h1.1 h2.1, h2.2⟩
theorem arrB_ok {B : BusS} (h : BusOk B) (b : Int) : BusOk (arrB B b) := by
 have h1 := arr_rx B b h.rx
 have h2 := arr_same B b
 have e1 : (arrB B b).enable = B.enable := by unfold arrB; split <;> rfl
 have e2 : (arrB B b).scratch = B.scratch := by unfold arrB; split <;> rfl
 have e3 : (arrB B b).tx = B.tx := by unfold arrB; split <;> rfl
 exact ⟨by rw [h2.ram]; exact h.ram, by rw [h2.msip]; exact h.msip, by rw [h2.time]; exact h.time, by rw [h2.timeh]; exact h.timeh, by rw [h2.cmp]; exact h.cmp, by rw [h2.cmph]; exact h.cmph, by rw [e1]; exact h.enable, by rw [e2]; exact h.scratch, h1.2, by rw [e3]; exact h.tx⟩
theorem arrG_ok : ∀ (l : List UInt8) {B : BusS}, BusOk B -> BusOk (arrG l B)
 | [], _, h => h
 | _ :: t, _, h => arrG_ok t (arrB_ok h _)
theorem x_Feed_no (mb : Nat) (s : ByteArray) (h : 64 < s.size) (w : World) :
 CS 69 #[.pointer (some ⟨mb, 0, none⟩), .string s] (.tuple #[.int .i64 0, .int .i64 1]) w := by
 have q : decide (64 < (s.size : Int)) = true := by simp; omega
 go_enter func69, ntmps69
 exact zq341
set_option maxRecDepth 100000 in
theorem x_Feed (mb rb : Nat) (X : XS) (hr : X.b.rx.size <= 4) (s : ByteArray) (h : s.size <= 64) (w) (hw : Hid (XAt w mb rb X)) :
 CX 69 #[.pointer (some ⟨mb, 0, none⟩), .string s] (.tuple #[.int .i64 (((arrG s.data.toList X.b).rx.size : Int) - X.b.rx.size), .int .i64 0]) [mb] mb rb (X.withB (arrG s.data.toList X.b)) w := by
 have q : decide (64 < (s.size : Int)) = false := by simp; omega
 have c69 := hw.out.c69
 have hT4 := (arrG_rx s.data.toList X.b hr).2
 obtain ⟨T, hT⟩ := zn1 (arrG s.data.toList X.b)
 rw [<- hT] at hT4 |-
 have HT : Hid (T = arrG (s.data.toList.drop 0) X.b) := hide1 hT
 clear hT
 obtain ⟨z, hz⟩ := zn1 (X.b.rx.size)
 rw [<- hz] at hr |-
 have hzs : (X.b.rx.size : Int) = z := by rw [hz]
 have HZ := hide1 hz
 clear hz
 go_enter func69, ntmps69
 go_wp2_with fail
 go_loopw [7] (fun d wr => ∃ (i : Nat) (C : BusS), i <= s.size /\ d = .int .i64 i /\ C.rx.size <= 4 /\ Hid (XAt wr mb rb (X.withB C)) /\ Hid (Kept [mb] w wr) /\ Hid (T = arrG (s.data.toList.drop i) C)) (fun d _ => s.size - (intOf d).toNat)
 case atStart => exact ⟨0, X.b, by omega, rfl, by rw [<- HZ.out]; exact hr, hw, hide1 (Kept.refl _ _), HT⟩
 case round =>
  obtain ⟨i, C, hi, rfl, hC, hb, hk, hg⟩ := hrel
  clear HT c69 hw hzs
  have e69 := hb.out.c69
  simp only [XS.withB] at e69
  by_cases hli : i < s.size
  . have q4 : decide ((i : Int) < (s.size : Int)) = true := by simp; omega
    have hg2 : Hid (T = arrG (s.data.toList.drop (i + 1)) (arrB C (s[i].toNat : Int))) := by
     show T = _
     rw [hg.out, dropb s i hli]; rfl
    clear hg
    have hs5 := hide1 (arr_same C (s[i].toNat : Int))
    have hr4 := (arr_rx C (s[i].toNat : Int) hC).2
    have AR := fun W => hide1 (x_arrived C hC (s[i].toNat : Int) W)
    have d66 := hb.out.c66
    have d67 := hb.out.c67
    have d68 := hb.out.c68
    have hfr := hb.out.fro
    have hml := hb.out.lt
    have d70 := hb.out.c70
    simp only [XS.withB] at d66 d67 d68 d70
    obtain ⟨D, hD⟩ := zn1 (arrB C (s[i].toNat : Int))
    simp only [<- hD] at AR hs5 hr4 hg2
    unfold prtA at AR
    clear hD
    have hb8 : s[i].toNat < 256 := s[i].toNat_lt
    have hwb := wrap_in (s[i].toNat : Int) (by omega)
    go_upto_region 7 with fail
    go_region_with (first | (go_at_call 116; refine (AR _).out.mono ?_; rintro o w1 ⟨rfl, hk1⟩; have hx1 : XAt w1 mb rb (X.withB C) := XAt.kept zq532 hk1; have f66 := hx1.c66; have f67 := hx1.c67; have f68 := hx1.c68; have f69 := hx1.c69; have f70 := hx1.c70; have hfr1 := hx1.fro))
    all_goals
     have hx1 : XAt w1 mb rb (X.withB C) := XAt.kept zq532 hk1
     have hx2 := hide1 (hx1.setPort D hs5.out)
     have hk2 : Kept [mb] w w1 := (hk.out.trans (Kept.mono (Kept.trans (by first | exact (Kept.refl [] _).drew | exact Kept.refl [] _) hk1) (by simp)))
     go_wp2_with fail
     go_roundw
     case rel =>
      refine ⟨i + 1, D, by omega, by go_num, hr4, hx2, ?_, hg2⟩
      exact hide1 (((((hk2.setM _ _).setM _ _).setM _ _).setM _ _).setM _ _)
     case measure => exact zq191
  . have q4 : decide ((i : Int) < (s.size : Int)) = false := by simp; omega
    have hTT : T = C := by
     rw [hg.out, List.drop_eq_nil_of_le (by rw [Array.length_toList]; show s.size <= i; omega)]; rfl
    clear hg
    subst hTT
    go_wp2_with fail
    go_ret2
    exact ⟨rfl, hb.out, hk.out⟩
end
theorem getD_rep (n i : Nat) : (List.replicate n (0 : Nat)).getD i 0 = 0 := by
 rw [List.getD_eq_getElem?_getD, List.getElem?_replicate]; split <;> rfl
theorem busRe_ok (B : BusS) (h : B.ram.length <= 65536) : BusOk (busRe B) := ⟨h, by show 0 < 2; decide, by show 0 < 4294967296; decide, by show 0 < 4294967296; decide, by show 4294967295 < 4294967296; decide, by show 4294967295 < 4294967296; decide, by show 0 < 8; decide, by show 0 < 256; decide, by show 0 <= 4; decide, by show 0 <= 8; decide⟩
theorem rst_inv (X : XS) (h : X.b.ram.length <= 65536) : XInv (rstX X) := by
 refine ⟨⟨busRe_ok X.b h, rfl, ?_, by show 2147483648 < 4294967296; decide, .inr (.inr rfl), ?_, ?_, ?_, ?_, ?_, ?_, ?_, ?_, ?_, ?_, ?_, ?_, ?_, ?_, ?_, ?_, ?_, ?_, ?_, ?_, ?_, ?_, ?_, ?_, ?_⟩, ?_, ?_, ?_, ?_, ?_, ?_, ?_, (by show 2147483648 % 2 = 0; decide), rfl, rfl, Nat.zero_testBit 1, Nat.zero_testBit 1, fun q => absurd rfl q⟩
 . intro i
   show (List.replicate 32 0).getD i 0 < _
   rw [getD_rep]; decide
 all_goals first
  | (show 0 < 4294967296; decide) | (show 0 <= 546; decide) | (show 0 < 8; decide) | (show 0 < 17184063488; decide) | (show 0 / 2048 % 4 ≠ 2; decide) | exact getD_rep 32 0 | (show 0 &&& 546 = 0; decide) | (show 0 &&& 8264106 = 0; decide) | (show 0 &&& 2730 = 0; decide) | (show 0 &&& 46079 = 0; decide) | (show 0 &&& 5 = 0; decide)
theorem new_inv (n : Nat) (h : n <= 65536) : XInv (newX n) := rst_inv _ (by simpa [mac00, bus00] using h)
theorem load_inv {X : XS} (h : XInv X) (off : Nat) (s : ByteArray) : XInv (loadX X off s) := by
 unfold loadX urwX
 have h1 : XInv (setRam X (laidB X.b.ram off s.data.toList)) := h.ram (laidB_length _ _ _)
 split
 . exact h1.unres
 . exact h1
theorem feed_inv {X : XS} (h : XInv X) (l : List UInt8) : XInv (X.withB (arrG l X.b)) := h.withB (arrG_ok l h.ok.b)
theorem tick_inv {X : XS} (h : XInv X) (n : Nat) : XInv { X with b := tickD X.b n } := h.withB (B := tickD X.b n) ⟨h.ok.b.ram, h.ok.b.msip, Nat.mod_lt _ (by decide), Nat.mod_lt _ (by decide), h.ok.b.cmp, h.ok.b.cmph, h.ok.b.enable, h.ok.b.scratch, h.ok.b.rx, h.ok.b.tx⟩
theorem drain_inv {X : XS} (h : XInv X) : XInv { X with b := { X.b with tx := ⟨#[]⟩ } } := h.withB (B := { X.b with tx := ⟨#[]⟩ }) ⟨h.ok.b.ram, h.ok.b.msip, h.ok.b.time, h.ok.b.timeh, h.ok.b.cmp, h.ok.b.cmph, h.ok.b.enable, h.ok.b.scratch, h.ok.b.rx, by show 0 <= 8; decide⟩
theorem byte1 (s : ByteArray) (k : Nat) (h : k < s.size) : s.extract k (k + 1) = strOfNums (leL (s.data[k].toNat : Int) 1) := by
 have e : (s.extract k (k + 1)).data = (strOfNums (leL (s.data[k].toNat : Int) 1)).data := by
  have hs : k < s.data.size := h
  apply Array.ext'
  rw [strOfNums_data]
  simp only [leL, List.nil_append, List.map_cons, List.map_nil]
  have e1 : ∀ b : UInt8, UInt8.ofNat ((b.toNat : Int) / 256 ^ 0 % 256).toNat = b := fun b => by
   have := UInt8.toNat_lt b
   have e0 : ((b.toNat : Int) / 256 ^ 0 % 256 : Int).toNat = b.toNat := by omega
   rw [e0]
   simp
  rw [e1]
  simp only [ByteArray.data_extract, Array.toList_extract]
  rw [List.extract_eq_take_drop, show k + 1 - k = 1 by omega, List.drop_eq_getElem_cons (by simpa using hs)]
  simp
 cases hx : s.extract k (k + 1)
 cases hy : strOfNums (leL (s.data[k].toNat : Int) 1)
 rw [hx, hy] at e
 simp only at e
 rw [e]
theorem feed_eq (s : ByteArray) : ∀ (f k n : Nat) (B : BusS), B.rx.size <= 4 -> k + f = s.size -> feedG s f k n B = (n + ((arrG (s.data.toList.drop k) B).rx.size - B.rx.size), arrG (s.data.toList.drop k) B)
 | 0, k, n, B, hB, h => by
  have hl : s.data.toList.drop k = [] := List.drop_eq_nil_of_le (by simp; exact Nat.le_of_eq h.symm)
  rw [hl]
  simp [feedG, arrG]
 | f + 1, k, n, B, hB, h => by
  have hk : k < s.data.toList.length := by simp; have : s.data.size = s.size := rfl; omega
  have hks : k < s.size := by omega
  rw [List.drop_eq_getElem_cons hk]
  have e1 : s.data.toList[k] = s.data[k] := by simp
  have ar := arr_rx B (s.data[k].toNat : Int) hB
  have b1 := byte1 s k hks
  simp only [feedG, arrG]
  rw [e1]
  by_cases hr : B.rx.size < 4
  . have ea : arrB B (s.data[k].toNat : Int) = { B with rx := B.rx ++ s.extract k (k + 1) } := by
     unfold arrB; rw [if_pos hr, <- b1]
    have hz : (B.rx ++ s.extract k (k + 1)).size = B.rx.size + 1 := by rw [ByteArray.size_append, b1, strOfNums_size]; rfl
    rw [if_pos hr, feed_eq s f (k + 1) (n + 1) _ (by rw [hz]; omega) (by omega), ea]
    have ag := arrG_rx (s.data.toList.drop (k + 1)) { B with rx := B.rx ++ s.extract k (k + 1) } (by rw [hz]; omega)
    rw [hz] at ag |-
    refine Prod.ext ?_ rfl
    dsimp only
    omega
  . have ea : arrB B (s.data[k].toNat : Int) = { B with lost := true } := by unfold arrB; rw [if_neg hr]
    rw [if_neg hr, feed_eq s f (k + 1) n { B with lost := true } hB (by omega), ea]
theorem feed_rel (s : ByteArray) (B : BusS) (hB : B.rx.size <= 4) : ((feedG s s.size 0 0 B).1 : Int) = ((arrG s.data.toList B).rx.size : Int) - B.rx.size /\ (feedG s s.size 0 0 B).2 = arrG s.data.toList B := by
 rw [feed_eq s s.size 0 0 B hB (by omega)]
 have := arrG_rx s.data.toList B hB
 rw [List.drop_zero]
 refine ⟨?_, rfl⟩
 dsimp only
 omega
section
attribute [local go_sem ↓] Go.wp_at_zero Go.wp_at_succ
def loadU (X : XS) (off : Int) (s : ByteArray) : XS := if loadE X.b off s = 0 then loadX X off.toNat s else X
theorem loadE_ok {B : BusS} {off : Int} {s : ByteArray} (h : loadE B off s = 0) : s.size <= 65536 /\ 0 <= off /\ off.toNat + s.size <= B.ram.length := by
 unfold loadE at h
 split at h
 . cases h
 . split at h
   . cases h
   . omega
theorem ux_Load (mb rb : Nat) (X : XS) (hX : XInv X) (off : Int) (s : ByteArray) (w : World) (hw : XAt w mb rb X) :
 CX 23 #[.pointer (some ⟨mb, 0, none⟩), .int .i64 off, .string s] (.int .i64 (loadE X.b off s)) [mb, rb] mb rb (loadU X off s) w := by
 unfold loadU
 by_cases h : loadE X.b off s = 0
 . obtain ⟨h1, h2, h3⟩ := loadE_ok h
   rw [if_pos h, h]
   have := x_Load mb rb X hX.ok off.toNat s h3 w (hide1 hw)
   rw [show ((off.toNat : Nat) : Int) = off by omega] at this
   exact this
 . rw [if_neg h]
   by_cases h1 : 65536 < s.size
   . have e : loadE X.b off s = 1 := by unfold loadE; rw [if_pos h1]
     rw [e]
     exact (x_Load_long mb off s h1 w).mono (fun o w' ⟨a, b⟩ => ⟨a, by rw [b]; exact hw, by rw [b]; exact Kept.refl _ _⟩)
   . have h2 : off < 0 \/ (X.b.ram.length : Int) - s.size < off := by
      unfold loadE at h; rw [if_neg h1] at h
      split at h
      . assumption
      . exact absurd rfl h
     have e : loadE X.b off s = 2 := by unfold loadE; rw [if_neg h1, if_pos h2]
     rw [e]
     exact (x_Load_arg mb rb X hX.ok.b.ram off s (by omega) h2 w (hide1 hw)).mono (fun o w' ⟨a, b⟩ => ⟨a, by rw [b]; exact hw, by rw [b]; exact Kept.refl _ _⟩)
def runU (X : XS) (n : Int) : (Int × Int) × XS := if 0 <= n /\ n <= 4096 then ((((runG n.toNat 0 X).1 : Int), 0), (runG n.toNat 0 X).2) else ((0, 2), X)
theorem ux_Run (mb rb : Nat) (X : XS) (hX : XInv X) (n : Int) (w : World) (hw : XAt w mb rb X) :
 CX 62 #[.pointer (some ⟨mb, 0, none⟩), .int .i64 n] (.tuple #[.int .i64 (runU X n).1.1, .int .i64 (runU X n).1.2]) [mb, rb] mb rb ((runU X n).2) w := by
 unfold runU
 by_cases h : 0 <= n /\ n <= 4096
 . rw [if_pos h]
   have := x_Run mb rb X hX n.toNat (by omega) w (hide1 hw)
   rw [show ((n.toNat : Nat) : Int) = n by omega] at this
   exact this
 . rw [if_neg h]
   exact (x_Run_no mb n (by omega) w).mono (fun o w' ⟨a, b⟩ => ⟨a, by rw [b]; exact hw, by rw [b]; exact Kept.refl _ _⟩)
def tickU (B : BusS) (n : Int) : Int × BusS := if 0 <= n /\ n <= 4294967295 then (0, tickD B n.toNat) else (2, B)
theorem ux_Tick (mb rb : Nat) (X : XS) (hX : XInv X) (n : Int) (w : World) (hw : XAt w mb rb X) :
 CX 68 #[.pointer (some ⟨mb, 0, none⟩), .int .i64 n] (.int .i64 (tickU X.b n).1) [mb, rb] mb rb ({ X with b := (tickU X.b n).2 }) w := by
 unfold tickU
 by_cases h : 0 <= n /\ n <= 4294967295
 . rw [if_pos h]
   have := x_Tick mb rb X hX.ok n.toNat (by omega) w (hide1 hw)
   rw [show ((n.toNat : Nat) : Int) = n by omega] at this
   exact this.mono (fun o w' ⟨a, b, c⟩ => ⟨a, b, c.mono (by simp)⟩)
 . rw [if_neg h]
   exact (x_Tick_no mb n (by omega) w).mono (fun o w' ⟨a, b⟩ => ⟨a, by rw [b]; exact hw, by rw [b]; exact Kept.refl _ _⟩)
def feedU (X : XS) (s : ByteArray) : (Int × Int) × XS := if s.size <= 64 then ((((arrG s.data.toList X.b).rx.size : Int) - X.b.rx.size, 0), X.withB (arrG s.data.toList X.b)) else ((0, 1), X)
theorem ux_Feed (mb rb : Nat) (X : XS) (hX : XInv X) (s : ByteArray) (w : World) (hw : XAt w mb rb X) :
 CX 69 #[.pointer (some ⟨mb, 0, none⟩), .string s] (.tuple #[.int .i64 (feedU X s).1.1, .int .i64 (feedU X s).1.2]) [mb, rb] mb rb ((feedU X s).2) w := by
 unfold feedU
 by_cases h : s.size <= 64
 . rw [if_pos h]
   exact (x_Feed mb rb X hX.ok.b.rx s h w (hide1 hw)).mono (fun o w' ⟨a, b, c⟩ => ⟨a, b, c.mono (by simp)⟩)
 . rw [if_neg h]
   exact (x_Feed_no mb s (by omega) w).mono (fun o w' ⟨a, b⟩ => ⟨a, by rw [b]; exact hw, by rw [b]; exact Kept.refl _ _⟩)
theorem ux_Peek (mb rb : Nat) (X : XS) (hX : XInv X) (off n : Int) (hn : n <= 9223372036854775807) (w : World) (hw : XAt w mb rb X) :
 ∃ (t : ByteArray) (e : Int), (CS 111 #[.pointer (some ⟨mb, 0, none⟩), .int .i64 off, .int .i64 n] (.tuple #[.string t, .int .i64 e]) w) /\ ((n < 0 \/ off < 0 \/ (X.b.ram.length : Int) - n < off) /\ t = ⟨#[]⟩ /\ e = 2 \/ (0 <= n /\ 0 <= off /\ off.toNat + n.toNat <= X.b.ram.length) /\ t = pkB X.b.ram off.toNat n.toNat /\ e = 0) := by
 by_cases h : n < 0 \/ off < 0 \/ (X.b.ram.length : Int) - n < off
 . exact ⟨_, _, x_Peek_no mb rb X hX.ok off n hn h w (hide1 hw), .inl ⟨h, rfl, rfl⟩⟩
 . have := x_Peek mb rb X hX.ok off.toNat n.toNat (by omega) w (hide1 hw)
   rw [show ((n.toNat : Nat) : Int) = n by omega, show ((off.toNat : Nat) : Int) = off by omega] at this
   exact ⟨_, _, this, .inr ⟨by omega, rfl, rfl⟩⟩
def regU (x : List Nat) (i : Int) : Int × Int := if 0 <= i /\ i < 32 then ((x.getD i.toNat 0 : Nat), 0) else (0, 2)
theorem ux_Reg (mb rb : Nat) (X : XS) (i : Int) (w : World) (hw : XAt w mb rb X) :
 CS 25 #[.pointer (some ⟨mb, 0, none⟩), .int .i64 i] (.tuple #[.int .i64 (regU X.x i).1, .int .i64 (regU X.x i).2]) w := by
 unfold regU
 by_cases h : 0 <= i /\ i < 32
 . rw [if_pos h]
   have := x_Reg mb rb X i.toNat (by omega) w (hide1 hw)
   rw [show ((i.toNat : Nat) : Int) = i by omega] at this
   exact this
 . rw [if_neg h]
   exact x_Reg_no mb rb X i (by omega) w (hide1 hw)
def Mx (w : World) (mb rb : Nat) : Prop := ∃ X, XAt w mb rb X /\ XInv X
theorem Mx.lt {w : World} {mb rb : Nat} (h : Mx w mb rb) : mb < w.heap.size /\ rb < w.heap.size := by
 obtain ⟨X, h1, h2⟩ := h
 exact ⟨h1.lt, h1.rlt⟩
theorem Mx.kept {w w' : World} {mb rb : Nat} (h : Mx w mb rb) (hk : Kept [] w w') : Mx w' mb rb := by
 obtain ⟨X, h1, h2⟩ := h
 exact ⟨X, h1.kept hk, h2⟩
theorem Mx.more {w w' : World} {mb rb : Nat} {G : List Nat} (h : Mx w mb rb) (hk : Kept G w w') (h1 : mb ∉ G) (h2 : rb ∉ G) : Mx w' mb rb := by
 obtain ⟨X, a, b⟩ := h
 exact ⟨X, XAt.more a hk h1 h2, b⟩
def IntR (e : Ending) : Prop := ∃ v : Int, 0 <= v /\ v < 4294967296 /\ e = .returned (.int .i64 v)
def BoolR (e : Ending) : Prop := ∃ r, e = .returned (.bool r)
def Mz (w : World) (mb rb z : Nat) : Prop := ∃ X, XAt w mb rb X /\ XInv X /\ X.b.ram.length = z
theorem Mz.m {w : World} {mb rb z : Nat} (h : Mz w mb rb z) : Mx w mb rb := by
 obtain ⟨X, a, b, c⟩ := h; exact ⟨X, a, b⟩
theorem Mz.le {w : World} {mb rb z : Nat} (h : Mz w mb rb z) : z <= 65536 := by
 obtain ⟨X, a, b, c⟩ := h; rw [<- c]; exact b.ok.b.ram
theorem Mx.z {w : World} {mb rb : Nat} (h : Mx w mb rb) : ∃ z, Mz w mb rb z := by
 obtain ⟨X, a, b⟩ := h; exact ⟨_, X, a, b, rfl⟩
theorem Mz.kept {w w' : World} {mb rb z : Nat} (h : Mz w mb rb z) (hk : Kept [] w w') : Mz w' mb rb z := by
 obtain ⟨X, a, b, c⟩ := h; exact ⟨X, a.kept hk, b, c⟩
theorem Mz.more {w w' : World} {mb rb z : Nat} {G : List Nat} (h : Mz w mb rb z) (hk : Kept G w w') (h1 : mb ∉ G) (h2 : rb ∉ G) : Mz w' mb rb z := by
 obtain ⟨X, a, b, c⟩ := h; exact ⟨X, XAt.more a hk h1 h2, b, c⟩
theorem m_Size (mb rb z : Nat) (w : World) (hw : Mz w mb rb z) : CS 110 #[.pointer (some ⟨mb, 0, none⟩)] (.int .i64 z) w := by
 obtain ⟨X, h1, h2, h3⟩ := hw
 rw [<- h3]
 exact x_Size mb rb X w (hide1 h1)
theorem pkB_size (r : List UInt8) (off n : Nat) (h : off + n <= r.length) : (pkB r off n).size = n := by
 unfold pkB; rw [strOfNums_size]; simp; omega
theorem m_Peek (mb rb z : Nat) (off n : Int) (hn : n <= 9223372036854775807) (w : World) (hw : Mz w mb rb z) :
 Calls prog 111 #[.pointer (some ⟨mb, 0, none⟩), .int .i64 off, .int .i64 n] w fun o w' => (∃ (t : ByteArray) (e : Int), (0 <= n -> 0 <= off -> off + n <= z -> (t.size : Int) = n) /\ t.size <= 65536 /\ o = .returned (.tuple #[.string t, .int .i64 e])) /\ w' = w := by
 obtain ⟨X, h1, h2, h3⟩ := hw
 obtain ⟨t, e, hc, hh⟩ := ux_Peek mb rb X h2 off n hn w h1
 refine hc.mono (fun o w' ⟨a, b⟩ => ⟨⟨t, e, ?_, ?_, a⟩, b⟩)
 . intro q1 q2 q3
   rcases hh with ⟨p, rfl, _⟩ | ⟨p, rfl, _⟩
   . omega
   . rw [pkB_size _ _ _ p.2.2]; omega
 . have := h2.ok.b.ram
   rcases hh with ⟨p, rfl, _⟩ | ⟨p, rfl, _⟩
   . show (0 : Nat) <= _; omega
   . rw [pkB_size _ _ _ p.2.2]; omega
theorem m_Show (mb rb : Nat) (w : World) (hw : Mx w mb rb) : Calls prog 63 #[.pointer (some ⟨mb, 0, none⟩)] w fun o w' => (∃ s : ByteArray, 200 <= s.size /\ s.size <= 300 /\ o = .returned (.string s)) /\ Kept [] w w' := by
 obtain ⟨X, h1, h2⟩ := hw
 refine (x_Show mb rb X h2.ok w (hide1 h1)).mono (fun o w' ⟨a, b⟩ => ⟨⟨_, ?_, ?_, a⟩, b⟩)
 all_goals
  have q1 := h2.ok.b.rx
  have q2 := h2.ok.b.tx
  unfold showX
  rw [ByteArray.size_append, ByteArray.size_append, ByteArray.size_append, hartS_size, csrS_size, timerS_size, portS_size]
  omega
theorem m_Load (mb rb z : Nat) (off : Int) (s : ByteArray) (w : World) (hw : Mz w mb rb z) :
 Calls prog 23 #[.pointer (some ⟨mb, 0, none⟩), .int .i64 off, .string s] w fun o w' => (∃ e : Int, o = .returned (.int .i64 e)) /\ Mz w' mb rb z /\ Kept [mb, rb] w w' := by
 obtain ⟨X, h1, h2, h3⟩ := hw
 refine (ux_Load mb rb X h2 off s w h1).mono (fun o w' ⟨a, b, c⟩ => ⟨⟨_, a⟩, ⟨_, b, ?_, ?_⟩, c⟩)
 . unfold loadU; split
   . exact load_inv h2 _ _
   . exact h2
 . unfold loadU; split
   . unfold loadX urwX setRam unresX
     split <;> (dsimp only; rw [laidB_length, h3])
   . exact h3
theorem m_Flush (mb : Nat) (w : World) : CS 61 #[.pointer (some ⟨mb, 0, none⟩)] (.tuple #[]) w := x_Flush mb w
theorem m_Drain (mb rb z : Nat) (w : World) (hw : Mz w mb rb z) : Calls prog 70 #[.pointer (some ⟨mb, 0, none⟩)] w fun o w' => (∃ s : ByteArray, s.size <= 8 /\ o = .returned (.string s)) /\ Mz w' mb rb z /\ Kept [mb, rb] w w' := by
 obtain ⟨X, h1, h2, h3⟩ := hw
 exact (x_Drain mb rb X w (hide1 h1)).mono (fun o w' ⟨a, b, c⟩ => ⟨⟨_, h2.ok.b.tx, a⟩, ⟨_, b, drain_inv h2, h3⟩, c.mono (by simp)⟩)
theorem m_Tick (mb rb z : Nat) (n : Int) (w : World) (hw : Mz w mb rb z) : Calls prog 68 #[.pointer (some ⟨mb, 0, none⟩), .int .i64 n] w fun o w' => (∃ e : Int, o = .returned (.int .i64 e)) /\ Mz w' mb rb z /\ Kept [mb, rb] w w' := by
 obtain ⟨X, h1, h2, h3⟩ := hw
 refine (ux_Tick mb rb X h2 n w h1).mono (fun o w' ⟨a, b, c⟩ => ⟨⟨_, a⟩, ⟨_, b, ?_, ?_⟩, c⟩)
 . unfold tickU; split
   . exact tick_inv h2 _
   . exact h2
 . unfold tickU; split <;> exact h3
theorem arrB_ram (B : BusS) (b : Int) : (arrB B b).ram = B.ram := by unfold arrB; split <;> rfl
theorem arrG_ram : ∀ (l : List UInt8) (B : BusS), (arrG l B).ram = B.ram
 | [], B => rfl
 | c :: t, B => (arrG_ram t _).trans (arrB_ram B _)
theorem m_Feed (mb rb z : Nat) (s : ByteArray) (w : World) (hw : Mz w mb rb z) : Calls prog 69 #[.pointer (some ⟨mb, 0, none⟩), .string s] w fun o w' => (∃ v er : Int, 0 <= v /\ v <= 4 /\ v <= s.size /\ o = .returned (.tuple #[.int .i64 v, .int .i64 er])) /\ Mz w' mb rb z /\ Kept [mb, rb] w w' := by
 obtain ⟨X, h1, h2, h3⟩ := hw
 have hr := arrG_rx s.data.toList X.b h2.ok.b.rx
 have hf := feed_rel s X.b h2.ok.b.rx
 have hc : (feedG s s.size 0 0 X.b).1 <= s.size := by
  have key : ∀ (f i n : Nat) (B : BusS), (feedG s f i n B).1 <= n + f := by
   intro f
   induction f with
   | zero => intro i n B; simp [feedG]
   | succ f ih =>
    intro i n B
    simp only [feedG]
    split
    . have := ih (i + 1) (n + 1) { B with rx := B.rx ++ s.extract i (i + 1) }; omega
    . have := ih (i + 1) n { B with lost := true }; omega
  have := key s.size 0 0 X.b; omega
 refine (ux_Feed mb rb X h2 s w h1).mono (fun o w' ⟨a, b, c⟩ => ⟨⟨_, _, ?_, ?_, ?_, a⟩, ⟨_, b, ?_, ?_⟩, c⟩)
 . exact zq342
 . exact zq342
 . exact zq342
 . unfold feedU; split
   . exact feed_inv h2 _
   . exact h2
 . unfold feedU; split
   . show (arrG s.data.toList X.b).ram.length = z; rw [arrG_ram]; exact h3
   . exact h3
theorem m_Reset (mb rb z : Nat) (w : World) (hw : Mz w mb rb z) : Calls prog 35 #[.pointer (some ⟨mb, 0, none⟩)] w fun o w' => o = .returned (.tuple #[]) /\ Mz w' mb rb z /\ Kept [mb, rb] w w' := by
 obtain ⟨X, h1, h2, h3⟩ := hw
 exact (x_Reset mb rb X w (hide1 h1)).mono (fun o w' ⟨a, b, c⟩ => ⟨a, ⟨_, b, rst_inv X h2.ok.b.ram, h3⟩, c.mono (by simp)⟩)
theorem m_Copy (mb rb z : Nat) (w : World) (hw : Mz w mb rb z) : Calls prog 29 #[.pointer (some ⟨mb, 0, none⟩)] w fun o w' => o = .returned (.pointer (some ⟨w.heap.size, 0, none⟩)) /\ Mz w' w.heap.size (w.heap.size + 1) z /\ Kept [] w w' := by
 obtain ⟨X, h1, h2, h3⟩ := hw
 exact (x_Copy mb rb X h2.ok.b.ram w (hide1 h1)).mono (fun o w' ⟨a, b, c⟩ => ⟨a, ⟨X, b, h2, h3⟩, c⟩)
theorem m_New (n : Nat) (hn : n <= 65536) (w : World) : Calls prog 22 #[.int .i64 n] w fun o w' => o = .returned (.tuple #[.pointer (some ⟨w.heap.size + 1, 0, none⟩), .int .i64 0]) /\ Mz w' (w.heap.size + 1) w.heap.size n /\ Kept [] w w' :=
 (x_New n hn w).mono (fun o w' ⟨a, b, c⟩ => ⟨a, ⟨_, b, new_inv n hn, by simp [newX, rstX, mac00, bus00, busRe]⟩, c⟩)
theorem fetch_len (B : BusS) (C : CsrS) (pc : Nat) : (fetchD B C pc).2.ram.length = B.ram.length := by
 unfold fetchD
 have h1 := half_len B C pc
 have h2 := half_len (halfD B C pc).2 C ((pc + 2) % 4294967296)
 split
 . split
   . split
     . exact h2.trans h1
     . exact h2.trans h1
   . exact h1
 . exact h1
theorem setXR_b (Y : XS) (d u : Nat) : (setXR Y d u).b = Y.b := by unfold setXR; split <;> rfl
theorem cro_len (X : XS) (N : NI) (v : Nat) : (croX X N v).2.b.ram.length = X.b.ram.length := by
 unfold croX
 split
 . rw [setXR_b]
 split
 . rfl
 split
 . unfold ldX
   have h := reach_len X.b (xC X) (vaD X N) (nD N.op) 1
   generalize reachD X.b (xC X) (vaD X N) (nD N.op) 1 = S at h
   unfold ldF; split
   . rw [setXR_b]; exact (load_len _ _).trans h
   . exact h
 split
 . unfold stX
   have h := reach_len X.b (xC X) (vaD X N) (nD N.op) 2
   generalize reachD X.b (xC X) (vaD X N) (nD N.op) 2 = S at h
   unfold stF; split
   . exact (store_len _ _ _).trans h
   . exact h
 split
 . unfold atX
   split
   . have h := wordAt_len X.b (xC X) (X.x.getD N.rs1 0) (kD N.op)
     generalize wordAtD X.b (xC X) (X.x.getD N.rs1 0) (kD N.op) = T at h
     unfold atF
     split
     . unfold atG lrX scX amoX unresX
       dsimp only
       split
       . rw [setXR_b]; exact h
       . split
         . rw [setXR_b]
           cases scB (X.withB T.2) T.1.1
           . exact (stN_length _ _ _ _).trans h
           . exact h
         . rw [setXR_b]; exact (stN_length _ _ _ _).trans h
     . exact h
   . rfl
 split
 . rfl
 split
 . rfl
 split
 . unfold ccrX
   dsimp only
   split
   . rw [wcs_keep, setXR_b]
   . rw [setXR_b]
 split
 . unfold prvX mrtX srtX unresX
   dsimp only
   split
   . rfl
   . split
     . rfl
     . split <;> rfl
 . rfl
theorem ins_len (X : XS) : (insX X).2.b.ram.length = X.b.ram.length := by
 unfold insX
 have h := fetch_len X.b (xC X) X.pc
 generalize fetchD X.b (xC X) X.pc = T at h
 split
 . split
   . unfold insR
     have := cro_len (X.withB T.2) (niOf (decodeD (T.1.w : Int)).1) T.1.w
     split
     . exact this.trans h
     . exact this.trans h
   . exact h
 . exact h
theorem step_len (X : XS) : (stepX X).2.b.ram.length = X.b.ram.length := by
 show (actX X).2.b.ram.length = _
 have ht : ∀ (Y : XS) (a b : Nat), (teX Y a b).b = Y.b := fun Y a b => by unfold teX tsX tmX; split <;> rfl
 have hi : ∀ (Y : XS) (a : Nat), (tiX Y a).b = Y.b := fun Y a => by unfold tiX tsX tmX; split <;> rfl
 have h := ins_len (wakX X)
 unfold actX
 split
 . rfl
 . split
   . unfold actE
     split
     . exact h
     . rw [ht]; exact h
   . rw [hi]; rfl
theorem run_len2 : ∀ (n r : Nat) (X : XS), (runG n r X).2.b.ram.length = X.b.ram.length
 | 0, _, _ => rfl
 | n + 1, r, X => (run_len2 n _ _).trans (step_len X)
theorem run_cnt : ∀ (n r : Nat) (X : XS), (runG n r X).1 <= r + n
 | 0, _, _ => Nat.le_refl _
 | n + 1, r, X => by
  have := run_cnt n (if (stepX X).1.1 = 0 then r + 1 else r) (stepX X).2
  refine Nat.le_trans (show (runG (n + 1) r X).1 <= _ from this) ?_
  split <;> omega
theorem step_in (X : XS) (h : XInv X) : 0 <= (stepX X).1.1 /\ (stepX X).1.1 <= 3 /\ -1 <= (stepX X).1.2 /\ (stepX X).1.2 < 16 := by
 have h1 := (act_inv h).2
 refine ⟨?_, ?_, h1.1, h1.2⟩
 all_goals
  show _
  unfold stepX actX
  dsimp only
  split
  . dsimp only; decide
  . split
    . unfold actE
      split
      . dsimp only; decide
      . dsimp only; decide
    . dsimp only; decide
theorem m_Step (mb rb z : Nat) (w : World) (hw : Mz w mb rb z) : Calls prog 24 #[.pointer (some ⟨mb, 0, none⟩)] w fun o w' => (∃ k c : Int, 0 <= k /\ k <= 3 /\ -1 <= c /\ c < 16 /\ o = .returned (.agg #[.int .i64 k, .int .i64 c])) /\ Mz w' mb rb z /\ Kept [mb, rb] w w' := by
 obtain ⟨X, h1, h2, h3⟩ := hw
 have hs := step_in X h2
 exact (x_Step mb rb X h2 w (hide1 h1)).mono (fun o w' ⟨a, b, c⟩ => ⟨⟨_, _, hs.1, hs.2.1, hs.2.2.1, hs.2.2.2, a⟩, ⟨_, b, step_inv h2, (step_len X).trans h3⟩, c⟩)
theorem m_Run (mb rb z : Nat) (n : Int) (w : World) (hw : Mz w mb rb z) : Calls prog 62 #[.pointer (some ⟨mb, 0, none⟩), .int .i64 n] w fun o w' => (∃ v er : Int, 0 <= v /\ v <= 4096 /\ o = .returned (.tuple #[.int .i64 v, .int .i64 er])) /\ Mz w' mb rb z /\ Kept [mb, rb] w w' := by
 obtain ⟨X, h1, h2, h3⟩ := hw
 have hc := run_cnt n.toNat 0 X
 refine (ux_Run mb rb X h2 n w h1).mono (fun o w' ⟨a, b, c⟩ => ⟨⟨_, _, ?_, ?_, a⟩, ⟨_, b, ?_, ?_⟩, c⟩)
 . unfold runU; split
   . dsimp only; omega
   . dsimp only; decide
 . unfold runU; split
   . dsimp only; omega
   . dsimp only; decide
 . unfold runU; split
   . exact run_inv _ _ X h2
   . exact h2
 . unfold runU; split
   . exact (run_len2 _ _ X).trans h3
   . exact h3
theorem k_regV (mb rb : Nat) (X : XS) (i : Int) (v : Int) (hv : (regU X.x i).1 = v) (w) (hw : Hid (XAt w mb rb X)) : CS 91 #[.pointer (some ⟨mb, 0, none⟩), .int .i64 i] (.int .i64 v) w := by
 have R := hide1 (ux_Reg mb rb X i w hw.out)
 rw [hv] at R
 go_enter func91, ntmps91
 go_wp2_with fail
 refine R.out.mono ?_
 exact zq343
theorem k_reg (mb rb : Nat) (i : Int) (w : World) (hw : Hid (Mx w mb rb)) : Calls prog 91 #[.pointer (some ⟨mb, 0, none⟩), .int .i64 i] w fun o w' => IntR o /\ w' = w := by
 obtain ⟨X, h1, h2⟩ := hw.out
 refine (k_regV mb rb X i _ rfl w (hide1 h1)).mono (fun o w' h => ⟨⟨_, ?_, ?_, h.1⟩, h.2⟩)
 all_goals
  have := h2.ok.xr i.toNat
  unfold regU
  split
  . dsimp only; omega
  . dsimp only; omega
theorem k_csrV (mb rb X) (hX : XOk X) (i : Int) (v : Nat) (hv : (xcsrE X i).1 = v) (w) (hw : Hid (XAt w mb rb X)) : CK 95 #[.pointer (some ⟨mb, 0, none⟩), .int .i64 i] (.int .i64 v) w := by
 have R := hide1 (x_Csr mb rb X hX i w hw)
 rw [hv] at R
 obtain ⟨e, he⟩ := zn1 ((xcsrE X i).2)
 rw [<- he] at R
 clear he hv hX
 go_enter func95, ntmps95
 go_wp2_with fail
 refine R.out.mono ?_
 rintro o w1 ⟨rfl, hk⟩
 have HK := hide1 hk
 clear hk
 go_wp2_with fail
 go_ret
 exact ⟨rfl, HK.out⟩
theorem k_csr (mb rb : Nat) (i : Int) (w : World) (hw : Hid (Mx w mb rb)) : Calls prog 95 #[.pointer (some ⟨mb, 0, none⟩), .int .i64 i] w fun o w' => IntR o /\ Kept [] w w' := by
 obtain ⟨X, h1, h2⟩ := hw.out
 refine (k_csrV mb rb X h2.ok i _ rfl w (hide1 h1)).mono (fun o w' h => ⟨⟨_, ?_, ?_, h.1⟩, h.2⟩)
 all_goals
  have := rcs_lt X h2.ok i
  unfold xcsrE
  split
  . dsimp only; omega
  . dsimp only; omega
theorem k_ramV (mb rb X) (hX : XOk X) (s : ByteArray) (hs : pkB X.b.ram 0 X.b.ram.length = s) (w) (hw : Hid (XAt w mb rb X)) : CS 64 #[.pointer (some ⟨mb, 0, none⟩)] (.string s) w := by
 have S := hide1 (x_Size mb rb X w hw)
 have P := hide1 (x_Peek mb rb X hX 0 X.b.ram.length (by omega) w hw)
 rw [hs] at P
 obtain ⟨z, hz⟩ := zn1 (X.b.ram.length)
 rw [<- hz] at S P
 clear hz hs hX hw
 go_enter func64, ntmps64
 go_wp2_with fail
 refine S.out.mono ?_
 rintro o w1 ⟨rfl, rfl⟩
 go_wp2_with fail
 refine P.out.mono ?_
 exact zq343
theorem k_ram (mb rb z : Nat) (w : World) (hw : Hid (Mz w mb rb z)) : Calls prog 64 #[.pointer (some ⟨mb, 0, none⟩)] w fun o w' => (∃ s : ByteArray, s.size = z /\ o = .returned (.string s)) /\ w' = w := by
 obtain ⟨X, h1, h2, h3⟩ := hw.out
 exact (k_ramV mb rb X h2.ok _ rfl w (hide1 h1)).mono (fun o w' h => ⟨⟨_, by rw [pkB_size _ _ _ (by omega)]; exact h3, h.1⟩, h.2⟩)
theorem k_minus (a : Int) (h0 : 0 <= a) (h1 : a < 4294967296) (w : World) : CS 98 #[.int .i64 a] (.int .i64 (sgn a)) w := by
 unfold sgn
 by_cases h : 2147483648 <= a
 . have q : decide (2147483648 <= a) = true := by simp [h]
   rw [if_pos h]
   have wr : IntKind.i64.wrap (a - 4294967296) = a - 4294967296 := zq115
   exact zq344
 . have q : decide (2147483648 <= a) = false := by simp; omega
   rw [if_neg h]
   exact zq344
theorem k_pickE (c : Int) (h0 : -9223372036854775808 <= c) (h1 : c <= 9223372036854775807) (n : Nat) (hn : 0 < n) (hn1 : n <= 9223372036854775807) : ∃ j : Nat, j < n /\ ∀ w : World,
 CS 28 #[.int .i64 c, .int .i64 n] (.int .i64 j) w := by
 have hz : ((n : Int) == 0) = false := by simp; omega
 by_cases hc : c < 0
 . have q : decide (c < 0) = true := by simp [hc]
   have w1 : IntKind.i64.wrap (c + 1) = c + 1 := zq115
   have w2 : IntKind.i64.wrap (-(c + 1)) = -(c + 1) := zq115
   have hm : (-(c + 1)).tmod (n : Int) = (-(c + 1)) % (n : Int) := Int.tmod_eq_emod_of_nonneg (by omega)
   have hlt := Int.emod_lt_of_pos (-(c + 1)) (show (0 : Int) < n by omega)
   have hge := Int.emod_nonneg (-(c + 1)) (show (n : Int) ≠ 0 by omega)
   have w3 : IntKind.i64.wrap ((-(c + 1)).tmod (n : Int)) = (-(c + 1)).tmod (n : Int) := wrap_in _ (by rw [hm]; omega)
   obtain ⟨j, hj⟩ : ∃ j : Nat, (j : Int) = (-(c + 1)).tmod (n : Int) := ⟨((-(c + 1)).tmod (n : Int)).toNat, by rw [hm]; omega⟩
   exact zq345
 . have q : decide (c < 0) = false := by simp; omega
   have hm : c.tmod (n : Int) = c % (n : Int) := Int.tmod_eq_emod_of_nonneg (by omega)
   have hlt := Int.emod_lt_of_pos c (show (0 : Int) < n by omega)
   have hge := Int.emod_nonneg c (show (n : Int) ≠ 0 by omega)
   have w3 : IntKind.i64.wrap (c.tmod (n : Int)) = c.tmod (n : Int) := wrap_in _ (by rw [hm]; omega)
   obtain ⟨j, hj⟩ : ∃ j : Nat, (j : Int) = c.tmod (n : Int) := ⟨(c.tmod (n : Int)).toNat, by rw [hm]; omega⟩
   exact zq345
theorem k_pick (c : Int) (h0 : -9223372036854775808 <= c) (h1 : c <= 9223372036854775807) (n : Nat) (hn : 0 < n) (hn1 : n <= 9223372036854775807) (w : World) :
 Calls prog 28 #[.int .i64 c, .int .i64 n] w fun e w' => (∃ j : Nat, j < n /\ e = .returned (.int .i64 j)) /\ w' = w := by
 obtain ⟨j, hj, h⟩ := k_pickE c h0 h1 n hn hn1
 exact (h w).mono (fun e w' h => ⟨⟨j, hj, h.1⟩, h.2⟩)
end
section
open Go.Shelf
def Tryz.laysM171_ren : Go.Shelf.Ren := ⟨fun | 171 => 213 | 243 => 302 | 246 => 354 | 283 => 382 | 284 => 383 | 285 => 384 | 286 => 385 | 129 => 406 | 317 => 405 | 318 => 407 | 319 => 408 | 320 => 409 | 337 => 440 | 338 => 441 | n => n, fun | 3 => 3 | 9 => 9 | 2 => 2 | 4 => 4 | 171 => 273 | 0 => 0 | 53 => 274 | 37 => 64 | 5 => 5 | 173 => 277 | 212 => 283 | 51 => 284 | 20 => 20 | 213 => 285 | 46 => 107 | 232 => 296 | 233 => 297 | n => n, fun | 17 => 0 | 18 => 1 | 19 => 2 | n => n⟩
theorem Tryz.laysM171 : Go.Proofs.LaysM.n171 prog Tryz.laysM171_ren := {
 mixed := by kernel_rfl
 f129 := func406.trans (congrArg some (by kernel_rfl))
 f171 := func213.trans (congrArg some (by kernel_rfl))
 f243 := func302.trans (congrArg some (by kernel_rfl))
 f246 := func354.trans (congrArg some (by kernel_rfl))
 f283 := func382.trans (congrArg some (by kernel_rfl))
 f284 := func383.trans (congrArg some (by kernel_rfl))
 f285 := func384.trans (congrArg some (by kernel_rfl))
 f286 := func385.trans (congrArg some (by kernel_rfl))
 f317 := func405.trans (congrArg some (by kernel_rfl))
 f318 := func407.trans (congrArg some (by kernel_rfl))
 f319 := func408.trans (congrArg some (by kernel_rfl))
 f320 := func409.trans (congrArg some (by kernel_rfl))
 f337 := func440.trans (congrArg some (by kernel_rfl))
 f338 := func441.trans (congrArg some (by kernel_rfl))
 t0 := Tryz.underlying0
 a0 := Tryz.isAgg0
 z0 := Tryz.sizeOf0
 v0 := Tryz.zeroValue0
 t2 := Tryz.underlying2
 a2 := Tryz.isAgg2
 z2 := Tryz.sizeOf2
 v2 := Tryz.zeroValue2
 t3 := Tryz.underlying3
 a3 := Tryz.isAgg3
 z3 := Tryz.sizeOf3
 v3 := Tryz.zeroValue3
 t4 := Tryz.underlying4
 a4 := Tryz.isAgg4
 z4 := Tryz.sizeOf4
 v4 := Tryz.zeroValue4
 t5 := Tryz.underlying5
 a5 := Tryz.isAgg5
 z5 := Tryz.sizeOf5
 v5 := Tryz.zeroValue5
 t9 := Tryz.underlying9
 a9 := Tryz.isAgg9
 z9 := Tryz.sizeOf9
 v9 := Tryz.zeroValue9
 t20 := Tryz.underlying20
 a20 := Tryz.isAgg20
 z20 := Tryz.sizeOf20
 v20 := Tryz.zeroValue20
 t37 := Tryz.underlying64
 a37 := Tryz.isAgg64
 z37 := Tryz.sizeOf64
 v37 := Tryz.zeroValue64
 t46 := Tryz.underlying107
 a46 := Tryz.isAgg107
 z46 := Tryz.sizeOf107
 v46 := Tryz.zeroValue107
 t51 := Tryz.underlying284
 a51 := Tryz.isAgg284
 z51 := Tryz.sizeOf284
 v51 := Tryz.zeroValue284
 t53 := Tryz.underlying274
 a53 := Tryz.isAgg274
 z53 := Tryz.sizeOf274
 v53 := Tryz.zeroValue274
 t171 := Tryz.underlying273
 a171 := Tryz.isAgg273
 z171 := Tryz.sizeOf273
 v171 := Tryz.zeroValue273
 t173 := Tryz.underlying277
 a173 := Tryz.isAgg277
 z173 := Tryz.sizeOf277
 v173 := Tryz.zeroValue277
 t212 := Tryz.underlying283
 a212 := Tryz.isAgg283
 z212 := Tryz.sizeOf283
 v212 := Tryz.zeroValue283
 t213 := Tryz.underlying285
 a213 := Tryz.isAgg285
 z213 := Tryz.sizeOf285
 t232 := Tryz.underlying296
 a232 := Tryz.isAgg296
 z232 := Tryz.sizeOf296
 v232 := Tryz.zeroValue296
 t233 := Tryz.underlying297
 a233 := Tryz.isAgg297
 z233 := Tryz.sizeOf297
 v233 := Tryz.zeroValue297
 g17 := by kernel_rfl
 g18 := by kernel_rfl
 g19 := by kernel_rfl
 i0 := by kernel_rfl
 i2 := by kernel_rfl
 i3 := by kernel_rfl
 i4 := by kernel_rfl
 i5 := by kernel_rfl
 i9 := by kernel_rfl
 i20 := by kernel_rfl
 i37 := by kernel_rfl
 i46 := by kernel_rfl
 i51 := by kernel_rfl
 i53 := by kernel_rfl
 i171 := by kernel_rfl
 i173 := by kernel_rfl
 i212 := by kernel_rfl
 i232 := by kernel_rfl
 i233 := by kernel_rfl
 m17 := by kernel_rfl
 m18 := by kernel_rfl
 m19 := by kernel_rfl }
open Go.RowKit Go.Sort Go.Lib in
theorem Tryz.strconv_Itoa (n : Int) (h0 : -9223372036854775808 <= n) (h1 : n <= 9223372036854775807) (w : World) (htab : Lib.TabIs prog w "internal/strconv.uint64pow10" .u64 Lib.pow10Tab) :
 Calls prog 213 #[.int .i64 n] w fun e w' => e = .returned (.string ⟨(Lib.itoa n).toArray⟩) /\ ∃ k os, w' = grow (w.drewN k) os := Any.strconv_Itoa Tryz.laysM171 n h0 h1 w htab
def Tryz.lays171_ren : Go.Shelf.Ren := ⟨fun | 171 => 213 | 243 => 302 | 246 => 354 | 283 => 382 | 284 => 383 | 285 => 384 | 286 => 385 | 129 => 406 | 317 => 405 | 318 => 407 | 319 => 408 | 320 => 409 | 337 => 440 | 338 => 441 | n => n, fun | 3 => 3 | 9 => 9 | 2 => 2 | 4 => 4 | 171 => 273 | 0 => 0 | 53 => 274 | 37 => 64 | 5 => 5 | 173 => 277 | 212 => 283 | 51 => 284 | 20 => 20 | 213 => 285 | 46 => 107 | 232 => 296 | 233 => 297 | n => n, fun | 17 => 0 | 18 => 1 | 19 => 2 | n => n⟩
theorem Tryz.lays171 : Go.Proofs.Lays.n171 prog Tryz.lays171_ren := {
 mixed := by kernel_rfl
 f129 := func406.trans (congrArg some (by kernel_rfl))
 f171 := func213.trans (congrArg some (by kernel_rfl))
 f243 := func302.trans (congrArg some (by kernel_rfl))
 f246 := func354.trans (congrArg some (by kernel_rfl))
 f283 := func382.trans (congrArg some (by kernel_rfl))
 f284 := func383.trans (congrArg some (by kernel_rfl))
 f285 := func384.trans (congrArg some (by kernel_rfl))
 f286 := func385.trans (congrArg some (by kernel_rfl))
 f317 := func405.trans (congrArg some (by kernel_rfl))
 f318 := func407.trans (congrArg some (by kernel_rfl))
 f319 := func408.trans (congrArg some (by kernel_rfl))
 f320 := func409.trans (congrArg some (by kernel_rfl))
 f337 := func440.trans (congrArg some (by kernel_rfl))
 f338 := func441.trans (congrArg some (by kernel_rfl))
 t0 := Tryz.underlying0
 a0 := Tryz.isAgg0
 z0 := Tryz.sizeOf0
 v0 := Tryz.zeroValue0
 t2 := Tryz.underlying2
 a2 := Tryz.isAgg2
 z2 := Tryz.sizeOf2
 v2 := Tryz.zeroValue2
 t3 := Tryz.underlying3
 a3 := Tryz.isAgg3
 z3 := Tryz.sizeOf3
 v3 := Tryz.zeroValue3
 t4 := Tryz.underlying4
 a4 := Tryz.isAgg4
 z4 := Tryz.sizeOf4
 v4 := Tryz.zeroValue4
 t5 := Tryz.underlying5
 a5 := Tryz.isAgg5
 z5 := Tryz.sizeOf5
 v5 := Tryz.zeroValue5
 t9 := Tryz.underlying9
 a9 := Tryz.isAgg9
 z9 := Tryz.sizeOf9
 v9 := Tryz.zeroValue9
 t20 := Tryz.underlying20
 a20 := Tryz.isAgg20
 z20 := Tryz.sizeOf20
 v20 := Tryz.zeroValue20
 t37 := Tryz.underlying64
 a37 := Tryz.isAgg64
 z37 := Tryz.sizeOf64
 v37 := Tryz.zeroValue64
 t46 := Tryz.underlying107
 a46 := Tryz.isAgg107
 z46 := Tryz.sizeOf107
 v46 := Tryz.zeroValue107
 t51 := Tryz.underlying284
 a51 := Tryz.isAgg284
 z51 := Tryz.sizeOf284
 v51 := Tryz.zeroValue284
 t53 := Tryz.underlying274
 a53 := Tryz.isAgg274
 z53 := Tryz.sizeOf274
 v53 := Tryz.zeroValue274
 t171 := Tryz.underlying273
 a171 := Tryz.isAgg273
 z171 := Tryz.sizeOf273
 v171 := Tryz.zeroValue273
 t173 := Tryz.underlying277
 a173 := Tryz.isAgg277
 z173 := Tryz.sizeOf277
 v173 := Tryz.zeroValue277
 t212 := Tryz.underlying283
 a212 := Tryz.isAgg283
 z212 := Tryz.sizeOf283
 v212 := Tryz.zeroValue283
 t213 := Tryz.underlying285
 a213 := Tryz.isAgg285
 z213 := Tryz.sizeOf285
 t232 := Tryz.underlying296
 a232 := Tryz.isAgg296
 z232 := Tryz.sizeOf296
 v232 := Tryz.zeroValue296
 t233 := Tryz.underlying297
 a233 := Tryz.isAgg297
 z233 := Tryz.sizeOf297
 v233 := Tryz.zeroValue297
 g17 := by kernel_rfl
 g18 := by kernel_rfl
 g19 := by kernel_rfl }
open Go.RowKit Go.Sort Go.Lib in
theorem Tryz.strconv_Itoa_small (i : Nat) (hi : i < 100) (w : World) :
 CS 213 #[.int .i64 i] (.string ⟨(Lib.decDigits i).toArray⟩) w := Any.strconv_Itoa_small Tryz.lays171 i hi w
end
namespace Byt
def regName (n : Nat) : List UInt8 := 120 :: Lib.decDigits n
end Byt
theorem add_str {a b c : ByteArray} (h : a ++ b = c) (hl : a.size + b.size <= 100000) (w : World) : (Op.stringOp .add a b).run prog w = .ok (.string c) w := by
 rw [<- h]; exact run_string_add_sum w a b (by omega)
theorem mk_app (x y : List UInt8) : (⟨x.toArray⟩ : ByteArray) ++ ⟨y.toArray⟩ = ⟨(x ++ y).toArray⟩ := ByteArray.mk_append_mk x y
theorem names_short : ((List.range 100).all fun n => decide ((Lib.decDigits n).length <= 10)) = true := by decide +kernel
theorem a_registerName (n : Nat) (hn : n < 100) (w : World) :
 CS 303 #[.int .i64 n] (Byt.strV (Byt.regName n)) w := by
 have hlen := List.all_eq_true.1 names_short n (by simpa using hn)
 rw [decide_eq_true_eq] at hlen
 obtain ⟨D, hD⟩ := zn1 (⟨(Lib.decDigits n).toArray⟩ : ByteArray)
 obtain ⟨X, hX⟩ := zn1 (⟨(Byt.regName n).toArray⟩ : ByteArray)
 have hadd : ∀ w, (Op.stringOp .add ⟨#[120]⟩ D).run prog w = .ok (.string X) w := fun w => add_str (a := ⟨#[120]⟩) (b := D) (c := X) (by rw [hD, hX]; exact mk_app [120] _) (by rw [hD]; simp [ByteArray.size]; omega) w
 have HX := hide1 hX
 have HD := hide1 hD
 clear hX hD hlen
 go_enter func303, ntmps303
 go_wp2_with fail
 refine (Tryz.strconv_Itoa_small n hn _).mono ?_
 rintro e w' ⟨rfl, rfl⟩
 rw [<- HD.out]
 go_wp2
 go_ret
 exact ⟨by unfold Byt.strV; rw [<- HX.out]; rfl, rfl⟩
def StrsAt (w : World) (b o : Nat) (L : List (List UInt8)) : Prop := ∀ j (h : j < L.length), w.cell? ⟨b, o + j, none⟩ = some (Byt.strV L[j])
theorem StrsAt.below {w w' : World} {b o : Nat} {L : List (List UInt8)} (h : StrsAt w b o L) {n : Nat} (hb : Below n w w') (hn : b < n) : StrsAt w' b o L := fun j hj => by
 rw [hb.cell (p := ⟨b, o + j, none⟩) hn]; exact h j hj
theorem StrsAt.drop {w : World} {b o : Nat} {L : List (List UInt8)} (h : StrsAt w b o L) (k : Nat) : StrsAt w b (o + k) (L.drop k) := fun j hj => by
 have hj' : k + j < L.length := by simp at hj; omega
 have := h (k + j) hj'
 rw [List.getElem_drop, show o + k + j = o + (k + j) by omega]; exact this
theorem StrsAt.of_row {w : World} {base : Nat} {v : Value} {L : List (List UInt8)} (h : w.ownsRow base 9 1 v L.length (L.map Byt.strV)) (hn : v ≠ .slice none 0 0) :
 ∃ b cap, v = .slice (some ⟨b, 0, none⟩) L.length cap /\ base <= b /\ b < w.heap.size /\ StrsAt w b 0 L := by
 rcases h.2 with ⟨hv, _⟩ | ⟨g, cap, cur, rfl, hb, hg, hrest⟩
 . exact absurd hv hn
 . refine ⟨g, cap, rfl, hb, (Array.getElem?_eq_some_iff.1 hg).1, fun j hj => ?_⟩
   rw [Nat.zero_add, h.cellAt j (by omega)]
   rw [List.getElem?_map, List.getElem?_eq_getElem hj]; rfl
theorem a_tokenAt (b o cap : Nat) (L : List (List UInt8)) (_hL : L.length <= 5000) (a : Nat) (ha : a <= 10000) (w : World) (hw : Hid (StrsAt w b o L)) :
 CS 309 #[.slice (some ⟨b, o, none⟩) L.length cap, .int .i64 a] (Byt.strV (L[a]?.getD [])) w := by
 by_cases h : a < L.length
 . have hc := hw.out a h
   rw [List.getElem?_eq_getElem h, Option.getD_some]
   obtain ⟨X, hX⟩ := zn1 (Byt.strV L[a])
   rw [<- hX] at hc |-
   clear hX
   exact zq346
 . rw [List.getElem?_eq_none (by omega)]
   exact zq346
namespace Byt
def regFrom (t : List UInt8) : Nat -> Nat -> Option Nat
 | 0, _ => none
 | f + 1, n => if t = regName n then some n else regFrom t f (n + 1)
def reg (t : List UInt8) : Option Nat := regFrom t 32 0
end Byt
theorem eq_str (s X : ByteArray) (l : List UInt8) (h : X = ⟨l.toArray⟩) : (s.toList == X.toList) = decide (s.data.toList = l) := by
 rw [Lib.toList_data, Lib.toList_data, h, Bool.eq_iff_iff]; simp
theorem a_readRegister (s : ByteArray) (w : World) :
 CS 386 #[.string s] (.tuple #[.int .i64 ((Byt.reg s.data.toList).getD 0 : Nat), .bool (Byt.reg s.data.toList).isSome]) w := by
 obtain ⟨T, hT⟩ := zn1 (Byt.reg s.data.toList)
 rw [<- hT]
 have HT := hide1 hT
 clear hT
 go_enter func386, ntmps386
 go_wp2
 go_loop [4] (fun d => ∃ i : Nat, i <= 32 /\ d = .int .i64 i /\ Hid (T = Byt.regFrom s.data.toList (32 - i) i)) (fun d => 32 - (intOf d).toNat)
 case atStart => exact ⟨0, by omega, rfl, HT⟩
 case round =>
  obtain ⟨i, hi0, rfl, hh⟩ := hrel
  by_cases hi : i < 32
  . obtain ⟨X, hX⟩ := zn1 (⟨(Byt.regName i).toArray⟩ : ByteArray)
    have hX' : Byt.strV (Byt.regName i) = .string X := by rw [hX]; rfl
    have he := eq_str s X _ hX
    have hv : T = if s.data.toList = Byt.regName i then some i else Byt.regFrom s.data.toList (32 - (i + 1)) (i + 1) := by
     rw [hh.out, show 32 - i = (32 - (i + 1)) + 1 by omega]; rfl
    by_cases hc : s.data.toList = Byt.regName i
    . rw [if_pos hc] at hv
      rw [decide_eq_true hc] at he
      have HV := hide1 hv
      have HX := hide1 hX'
      clear hX hX' hv hc hh HT
      go_wp2_with (go_at_call 303; refine (a_registerName i (by omega) _).mono ?_; rintro e w' ⟨rfl, rfl⟩; rw [HX.out])
      exact zq347
    . rw [if_neg hc] at hv
      rw [decide_eq_false hc] at he
      have HV := hide1 hv
      have HX := hide1 hX'
      clear hX hX' hv hc hh HT
      go_wp2_with (go_at_call 303; refine (a_registerName i (by omega) _).mono ?_; rintro e w' ⟨rfl, rfl⟩; rw [HX.out])
      go_round
      case rel => exact ⟨i + 1, by omega, by go_num, HV⟩
      case measure => exact zq191
  . obtain rfl : i = 32 := by omega
    have hT : Hid (T = none) := hh
    clear hh HT
    go_wp2
    go_ret2
    exact zq348
end Go.Proofs.YtmlgonbhoknoiabGreatDoor
