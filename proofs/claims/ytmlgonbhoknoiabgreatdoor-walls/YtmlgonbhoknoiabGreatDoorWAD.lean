import Derived.Test.YtmlgonbhoknoiabGreatDoorWAC
set_option maxHeartbeats 8000000
set_option linter.all false
namespace Go.Proofs.YtmlgonbhoknoiabGreatDoor
open Go.RowKit Go.Proofs.Tryz
def sgn (a : Int) : Int := if 2147483648 <= a then a - 4294967296 else a
theorem or_and : ∀ (n a b : Nat), a <= n -> (a ||| b) + (a &&& b) = a + b
 | 0, a, b, h => by
  obtain rfl : a = 0 := by omega
  simp
 | n + 1, a, b, h => by
  by_cases hz : a = 0
  . subst hz; simp
  have ih := or_and n (a / 2) (b / 2) (by omega)
  have h1 : (a ||| b) / 2 = a / 2 ||| b / 2 := Nat.or_div_two
  have h2 : (a &&& b) / 2 = a / 2 &&& b / 2 := Nat.and_div_two
  have h3 : (a ||| b) % 2 = 1 ↔ a % 2 = 1 \/ b % 2 = 1 := Nat.or_mod_two_eq_one
  have h4 : (a &&& b) % 2 = 1 ↔ a % 2 = 1 /\ b % 2 = 1 := Nat.and_mod_two_eq_one
  omega
theorem ndiv (a p : Nat) : (a : Int).tdiv (p : Int) = ((a / p : Nat) : Int) := by rw [Int.tdiv_eq_ediv_of_nonneg (by omega)]; simp
def wout (a b : Nat) : Nat := a - (a &&& b)
def wordN (x : Int) : Nat := (x % 4294967296).toNat
theorem wordN_cast (x : Int) : ((wordN x : Nat) : Int) = x % 4294967296 := by unfold wordN; omega
def alu_add (a b : Nat) : Nat := (a + b) % 4294967296
def alu_sub (a b : Nat) : Nat := wordN ((a : Int) - b)
def alu_slt (a b : Nat) : Nat := if sgn a < sgn b then 1 else 0
def alu_sltu (a b : Nat) : Nat := if a < b then 1 else 0
def alu_xor (a b : Nat) : Nat := a ^^^ b
def alu_or (a b : Nat) : Nat := a ||| b
def alu_and (a b : Nat) : Nat := a &&& b
def alu_sll (a b : Nat) : Nat := a * 2 ^ (b % 32) % 4294967296
def alu_srl (a b : Nat) : Nat := a / 2 ^ (b % 32)
def alu_sra (a b : Nat) : Nat := wordN (sgn a / ((2 ^ (b % 32) : Nat) : Int))
def alu_mul (a b : Nat) : Nat := a * b % 4294967296
def alu_mulh (a b : Nat) : Nat := wordN (sgn a * sgn b / 4294967296)
def alu_mulhsu (a b : Nat) : Nat := wordN (sgn a * b / 4294967296)
def alu_mulhu (a b : Nat) : Nat := a * b / 4294967296
def alu_div (a b : Nat) : Nat := if b = 0 then 4294967295 else wordN ((sgn a).tdiv (sgn b))
def alu_divu (a b : Nat) : Nat := if b = 0 then 4294967295 else a / b
def alu_rem (a b : Nat) : Nat := if b = 0 then a else wordN (sgn a - (sgn a).tdiv (sgn b) * sgn b)
def alu_remu (a b : Nat) : Nat := if b = 0 then a else a % b
def alu_swap (_ b : Nat) : Nat := b
def alu_min (a b : Nat) : Nat := if sgn a < sgn b then a else b
def alu_max (a b : Nat) : Nat := if sgn b < sgn a then a else b
def alu_minu (a b : Nat) : Nat := if a < b then a else b
def alu_maxu (a b : Nat) : Nat := if b < a then a else b
def alu (op : Int) (a b : Nat) : Nat :=
 if op = 19 \/ op = 28 \/ op = 53 then alu_add a b else
 if op = 29 then alu_sub a b else
 if op = 20 \/ op = 31 then alu_slt a b else
 if op = 21 \/ op = 32 then alu_sltu a b else
 if op = 22 \/ op = 33 \/ op = 54 then alu_xor a b else
 if op = 23 \/ op = 36 \/ op = 56 then alu_or a b else
 if op = 24 \/ op = 37 \/ op = 55 then alu_and a b else
 if op = 25 \/ op = 30 then alu_sll a b else
 if op = 26 \/ op = 34 then alu_srl a b else
 if op = 27 \/ op = 35 then alu_sra a b else
 if op = 42 then alu_mul a b else
 if op = 43 then alu_mulh a b else
 if op = 44 then alu_mulhsu a b else
 if op = 45 then alu_mulhu a b else
 if op = 46 then alu_div a b else
 if op = 47 then alu_divu a b else
 if op = 48 then alu_rem a b else
 if op = 49 then alu_remu a b else
 if op = 52 then alu_swap a b else
 if op = 57 then alu_min a b else
 if op = 58 then alu_max a b else
 if op = 59 then alu_minu a b else
 if op = 60 then alu_maxu a b else
 0
theorem sgn_bd (a : Nat) (h : a < 4294967296) : -2147483648 <= sgn a /\ sgn a <= 2147483647 := by unfold sgn; split <;> omega
theorem sgn_zero (b : Nat) (h : b < 4294967296) : (sgn b = 0) ↔ b = 0 := by unfold sgn; split <;> omega
def holds (op : Int) (a b : Nat) : Bool :=
 if op = 5 then decide (a = b) else if op = 6 then !decide (a = b) else if op = 7 then decide (sgn a < sgn b) else if op = 8 then decide (sgn b <= sgn a) else if op = 9 then decide (a < b) else if op = 10 then decide (b <= a) else false
structure Kept (F : List Nat) (w w' : World) : Prop where
 os : w'.os = w.os
 tape : w'.tape = w.tape
 output : w'.output = w.output
 size : w.heap.size <= w'.heap.size
 block : ∀ k, k < w.heap.size -> k ∉ F -> w'.heap[k]? = w.heap[k]?
abbrev CK (f : Nat) (a : Array Value) (r : Value) (w : World) : Prop := Calls prog f a w fun e w' => e = .returned r /\ Kept [] w w'
theorem Kept.refl (F : List Nat) (w : World) : Kept F w w := ⟨rfl, rfl, rfl, Nat.le_refl _, fun _ _ _ => rfl⟩
theorem Kept.trans {F : List Nat} {a b c : World} (h : Kept F a b) (k : Kept F b c) : Kept F a c :=
 ⟨k.os.trans h.os, k.tape.trans h.tape, k.output.trans h.output, Nat.le_trans h.size k.size, fun i hi hn => (k.block i (Nat.lt_of_lt_of_le hi h.size) hn).trans (h.block i hi hn)⟩
theorem Kept.mono {F G : List Nat} {a b : World} (h : Kept F a b) (hs : ∀ k ∈ F, k ∈ G) : Kept G a b := ⟨h.os, h.tape, h.output, h.size, fun i hi hn => h.block i hi (fun h' => hn (hs i h'))⟩
theorem Kept.alloc {F : List Nat} {a w : World} (h : Kept F a w) (o : Obj) : Kept F a (w.alloc o) :=
 ⟨h.os, h.tape, h.output, Nat.le_trans h.size (by simp), fun i hi hn => (Below.heap_alloc w o i (Nat.lt_of_lt_of_le hi h.size)).trans (h.block i hi hn)⟩
theorem Kept.setCell {F : List Nat} {a w : World} (h : Kept F a w) {p : Addr} (hp : p.block ∈ F \/ a.heap.size <= p.block) (u : Value) : Kept F a (w.setCell p u) := by
 have hb := (Below.refl w.heap.size w)
 refine ⟨h.os, h.tape, h.output, Nat.le_trans h.size ?_, fun i hi hn => (Below.heap_setCell w p u i ?_).trans (h.block i hi hn)⟩
 . exact ((Below.refl 0 w).setCell (Nat.zero_le _) u).size
 . intro e; subst e
   rcases hp with hp | hp
   . exact hn hp
   . omega
theorem Kept.drew {F : List Nat} {a w : World} (h : Kept F a w) : Kept F a w.drew := ⟨h.os, h.tape, h.output, h.size, h.block⟩
theorem Below.kept {w w' : World} (h : Below w.heap.size w w') (F : List Nat) : Kept F w w' := ⟨h.os, h.tape, h.output, h.size, fun k hk _ => h.block k hk⟩
theorem Kept.cell {F : List Nat} {w w' : World} (h : Kept F w w') {p : Addr} (hp : p.block < w.heap.size) (hn : p.block ∉ F) : w'.cell? p = w.cell? p := World.cell?_of_block (w := w) (h.block p.block hp hn)
theorem Kept.frozen {F : List Nat} {w w' : World} (h : Kept F w w') {p : Addr} (hp : p.block < w.heap.size) (hn : p.block ∉ F) : w'.frozen? p = w.frozen? p := World.frozen?_of_block (w := w) (h.block p.block hp hn)
structure BusS where
 ram : List UInt8
 msip : Nat
 time : Nat
 timeh : Nat
 cmp : Nat
 cmph : Nat
 enable : Nat
 scratch : Nat
 lost : Bool
 rx : ByteArray
 tx : ByteArray
structure BusOk (B : BusS) : Prop where
 ram : B.ram.length <= 65536
 msip : B.msip < 2
 time : B.time < 4294967296
 timeh : B.timeh < 4294967296
 cmp : B.cmp < 4294967296
 cmph : B.cmph < 4294967296
 enable : B.enable < 8
 scratch : B.scratch < 256
 rx : B.rx.size <= 4
 tx : B.tx.size <= 8
def holdsD (pa n : Int) (len : Nat) : Bool := decide (1 <= n /\ n <= 4 /\ 2147483648 <= pa /\ pa <= 2147483648 + len - n)
def isTmr (pa : Int) : Bool := decide (pa = 33554432 \/ pa = 33570816 \/ pa = 33570820 \/ pa = 33603576 \/ pa = 33603580)
def isPrt (pa : Int) : Bool := decide (pa = 268435456 \/ pa = 268435457 \/ pa = 268435458 \/ pa = 268435461 \/ pa = 268435463)
def takesD (pa n : Int) (len : Nat) : Bool := if holdsD pa n len = true then true else if isTmr pa = true then decide (n = 4) else if isPrt pa = true then decide (n = 1) else false
def whyD (B : BusS) : Nat := if (decide (B.enable / 4 % 2 = 1) && B.lost) = true then 6 else if (decide (B.enable % 2 = 1) && decide (0 < B.rx.size)) = true then 4 else if (decide (B.enable / 2 % 2 = 1) && decide (B.tx.size < 8)) = true then 2 else 1
def statD (B : BusS) : Nat := (if decide (0 < B.rx.size) = true then 1 else 0) + (if B.lost = true then 2 else 0) + (if decide (B.tx.size < 8) = true then 32 else 0) + (if decide (B.tx.size = 0) = true then 64 else 0)
def mtipD (B : BusS) : Bool := if decide (B.cmph < B.timeh) = true then true else if decide (B.timeh = B.cmph) = true then decide (B.cmp <= B.time) else false
def ldN : List UInt8 -> Nat
 | [] => 0
 | c :: l => c.toNat + 256 * ldN l
theorem ldN_lt : ∀ l : List UInt8, ldN l < 256 ^ l.length
 | [] => by simp [ldN]
 | c :: l => by
  have := ldN_lt l
  have hc := u8_bd c
  simp only [ldN, List.length_cons, Nat.pow_succ]; omega
def rdRam (B : BusS) (p n : Nat) : Nat := ldN ((B.ram.drop p).take n)
def readV (B : BusS) (pa : Int) : Nat × BusS :=
 if pa = 33554432 then (B.msip, B) else if pa = 33570816 then (B.cmp, B) else if pa = 33570820 then (B.cmph, B) else if pa = 33603576 then (B.time, B) else if pa = 33603580 then (B.timeh, B)
 else if pa = 268435456 then (if h : 0 < B.rx.size then (B.rx[0].toNat, { B with rx := B.rx.extract 1 B.rx.size }) else (0, B))
 else if pa = 268435457 then (B.enable, B) else if pa = 268435458 then (whyD B, B) else if pa = 268435461 then (statD B, { B with lost := false }) else (B.scratch, B)
def readD (B : BusS) (pa n : Int) : Nat × BusS := if holdsD pa n B.ram.length = true then (rdRam B (pa - 2147483648).toNat n.toNat, B) else if takesD pa n B.ram.length = true then readV B pa else (0, B)
theorem takes_n {pa n : Int} {L : Nat} (h : holdsD pa n L = false) (ht : takesD pa n L = true) : (isTmr pa = true /\ n = 4) \/ (isPrt pa = true /\ n = 1) := by
 unfold takesD at ht
 rw [h] at ht
 simp only [Bool.false_eq_true, if_false] at ht
 split at ht
 . next h1 => left; exact ⟨h1, by simpa using ht⟩
 . split at ht
   . next h1 => right; exact ⟨h1, by simpa using ht⟩
   . cases ht
def leL (v : Int) : Nat -> List Int
 | 0 => []
 | n + 1 => leL v n ++ [v / 256 ^ n % 256]
theorem Tryz.info5 : (prog.info? 5).map (fun i => (i.zero, i.size, i.bytes)) = some (some (.int .u8 0), 1, 1) := by kernel_rfl
theorem own_string {P : Program} {w : World} {base k : Nat} {b : Value} {xs : List Int} (src dst : TypeId) {e : TypeId} (hs : P.underlying src = some (.slice e)) (he : P.underlying e = some (.int .u8)) (hd : P.underlying dst = some .string)
 (h : w.ownsRow base e 1 b k (xs.map (Value.int .u8))) : (convert src dst b).run P w = .ok (.string (strOfNums xs)) w := by
 have hl := h.1
 rcases h.2 with ⟨rfl, rfl⟩ | ⟨g, cap, cur, rfl, hb, hg, rest⟩
 . have : xs = [] := by simpa using hl
   subst this
   exact run_convert_bytes_nil w src e hs he 0 0 dst hd
 . simp at hl
   refine run_convert_bytes_arg w src e hs he g 0 k cap xs hl (fun i hi => ?_) dst hd
   have := h.cells (g := g) rfl i (.int .u8 (xs.getD i 0)) (by simp [List.getElem?_map, List.getD, List.getElem?_eq_getElem (show i < xs.length by omega)])
   have hplain : (⟨g, 0, none⟩ : Addr).add i = ⟨g, 0 + i, none⟩ := by unfold Addr.add; split <;> simp_all
   rw [hplain] at this
   exact this
theorem a_Le (v : Int) (n : Nat) (hn : n <= 8) (w : World) :
 CB 147 #[.int .i64 v, .int .i64 n] (.string (strOfNums (leL v n))) w := by
 have hmk : ∀ w, (Instr.makeSlice 64 (.int .i64 0) (.int .i64 8)).run prog w = .ok (.slice (some ⟨w.heap.size, 0, none⟩) 0 8) (w.alloc (.cells #[.int .u8 0, .int .u8 0, .int .u8 0, .int .u8 0, .int .u8 0, .int .u8 0, .int .u8 0, .int .u8 0] 5)) := fun _ => by kernel_rfl
 obtain ⟨i0, hi, hz0, hz1, hz2⟩ := info_parts Tryz.info5
 go_enter func147, ntmps147
 exact zq199
theorem u_Le (v : Int) (n : Nat) (hn : n <= 8) (w : World) :
 CB 89 #[.int .i64 v, .int .i64 n] (.string (strOfNums (leL v n))) w := by
 have hmk : ∀ w, (Instr.makeSlice 64 (.int .i64 0) (.int .i64 8)).run prog w = .ok (.slice (some ⟨w.heap.size, 0, none⟩) 0 8) (w.alloc (.cells #[.int .u8 0, .int .u8 0, .int .u8 0, .int .u8 0, .int .u8 0, .int .u8 0, .int .u8 0, .int .u8 0] 5)) := fun _ => by kernel_rfl
 obtain ⟨i0, hi, hz0, hz1, hz2⟩ := info_parts Tryz.info5
 go_enter func89, ntmps89
 exact zq199
theorem add_strR {a b c : ByteArray} (h : a ++ b = c) (hl : a.size + b.size <= 100000) (w : World) : (Op.stringOp .add a b).run prog w = .ok (.string c) w := by
 rw [<- h]; exact run_string_add_sum w a b (by omega)
theorem leLR_length (v : Int) : ∀ n, (leL v n).length = n
 | 0 => rfl
 | n + 1 => by simp [leL, leLR_length v n]
theorem strNumsR_size (l : List Int) : (strOfNums l).size = l.length := by
 unfold strOfNums; simp [ByteArray.size]
def stN : List UInt8 -> Nat -> Nat -> Nat -> List UInt8
 | r, _, 0, _ => r
 | r, p, n + 1, v => stN (r.set p (UInt8.ofNat v)) (p + 1) n (v / 256)
theorem stN_length : ∀ (n : Nat) (r : List UInt8) (p v : Nat), (stN r p n v).length = r.length
 | 0, r, p, v => rfl
 | n + 1, r, p, v => by simp only [stN]; rw [stN_length n]; simp
def writeV (B : BusS) (pa : Int) (v : Nat) : BusS :=
 if pa = 33554432 then { B with msip := v % 2 } else if pa = 33570816 then { B with cmp := v } else if pa = 33570820 then { B with cmph := v } else if pa = 33603576 then { B with time := v } else if pa = 33603580 then { B with timeh := v }
 else if pa = 268435456 then (if B.tx.size < 8 then { B with tx := B.tx ++ strOfNums (leL v 1) } else B)
 else if pa = 268435457 then { B with enable := v % 8 } else if pa = 268435463 then { B with scratch := v % 256 } else B
def writeD (B : BusS) (pa n : Int) (v : Nat) : BusS := if holdsD pa n B.ram.length = true then { B with ram := stN B.ram (pa - 2147483648).toNat n.toNat v } else if takesD pa n B.ram.length = true then writeV B pa v else B
def tickD (B : BusS) (n : Nat) : BusS := { B with time := (B.time + n) % 4294967296, timeh := (B.timeh + (B.time + n) / 4294967296) % 4294967296 }
def busRe (B : BusS) : BusS := { ram := B.ram, msip := 0, time := 0, timeh := 0, cmp := 4294967295, cmph := 4294967295, enable := 0, scratch := 0, lost := false, rx := ⟨#[]⟩, tx := ⟨#[]⟩ }
theorem wrap_in (n : Int) (h : -9223372036854775808 <= n /\ n <= 9223372036854775807) : IntKind.i64.wrap n = n := by
 simp [IntKind.wrap, IntKind.bits, IntKind.signed]; omega
def feedG (s : ByteArray) : Nat -> Nat -> Nat -> BusS -> Nat × BusS
 | 0, _, n, B => (n, B)
 | f + 1, i, n, B => if B.rx.size < 4 then feedG s f (i + 1) (n + 1) { B with rx := B.rx ++ s.extract i (i + 1) } else feedG s f (i + 1) n { B with lost := true }
def laidB : List UInt8 -> Nat -> List UInt8 -> List UInt8
 | r, _, [] => r
 | r, p, c :: l => laidB (r.set p c) (p + 1) l
theorem laidB_length : ∀ (l r : List UInt8) (p : Nat), (laidB r p l).length = r.length
 | [], r, p => rfl
 | c :: l, r, p => by simp only [laidB]; rw [laidB_length l]; simp
def loadE (B : BusS) (off : Int) (s : ByteArray) : Int := if 65536 < s.size then 1 else if off < 0 \/ (B.ram.length : Int) - s.size < off then 2 else 0
def pkB (r : List UInt8) (off n : Nat) : ByteArray := strOfNums (((r.drop off).take n).map fun c => (c.toNat : Int))
def leA (v : Int) (n : Nat) : ByteArray := strOfNums (leL v n)
theorem leA_size (v : Int) (n : Nat) : (leA v n).size = n := by unfold leA; rw [strNumsR_size, leLR_length]
theorem v_Le4 (v : Int) (w : World) : CB 89 #[.int .i64 v, .int .i64 4] (.string (leA v 4)) w := u_Le v 4 (by omega) w
theorem add_in (a b : ByteArray) (h : a.size + b.size <= 100000) : ∃ c : ByteArray, c = a ++ b /\ c.size = a.size + b.size /\ ∀ w, (Op.stringOp .add a b).run prog w = .ok (.string c) w :=
 ⟨_, rfl, by rw [ByteArray.size_append], fun w => add_strR rfl h w⟩
structure CsrS where
 mode : Nat
 sie : Nat
 mie : Nat
 spie : Nat
 mpie : Nat
 spp : Nat
 mpp : Nat
 mprv : Nat
 sum : Nat
 mxr : Nat
 tvm : Nat
 tw : Nat
 tsr : Nat
 mtvec : Nat
 mscratch : Nat
 mepc : Nat
 mcause : Nat
 mtval : Nat
 mcen : Nat
 stvec : Nat
 sscratch : Nat
 sepc : Nat
 scause : Nat
 stval : Nat
 scen : Nat
 medeleg : Nat
 mideleg : Nat
 enable : Nat
 soft : Nat
 inhibit : Nat
 satp : Nat
 cycle : Nat
 cycleh : Nat
 ret : Nat
 reth : Nat
 held : Nat
 wroteC : Bool
 wroteI : Bool
def actsD (C : CsrS) (kind : Int) : Nat := if decide (kind = 0) = true then C.mode else if decide (C.mprv = 1) = true then C.mpp else C.mode
def bitN (e i : Nat) : Bool := decide (e / 2 ^ i % 2 = 1)
def allB (mode kind : Nat) (u r w x sum mxr : Bool) : Bool :=
 if decide (mode = 0) = true /\ u = false then false
 else if decide (mode = 1) = true /\ u = true /\ (decide (kind = 0) = true \/ sum = false) then false
 else if kind = 0 then x else if kind = 1 then (if r = true then true else if mxr = true then x else false) else w
def allD (C : CsrS) (e kind mode : Nat) : Bool := allB mode kind (bitN e 4) (bitN e 1) (bitN e 2) (bitN e 3) (decide (C.sum = 1)) (decide (C.mxr = 1))
def spanN (lvl : Nat) : Nat := if lvl = 1 then 4194304 else 4096
def adB (a d : Bool) (kind : Nat) : Nat := if a = true then (if kind = 2 then (if d = true then 0 else 128) else 0) else (if kind = 2 then (if d = true then 64 else 192) else 64)
def leafD (B : BusS) (C : CsrS) (e a lvl va kind mode : Nat) : (Nat × Nat) × BusS :=
 if allD C e kind mode = false then ((0, 1), B)
 else if lvl = 1 /\ ¬ e / 1024 % 1024 = 0 then ((0, 1), B)
 else ((e / 1024 * 4096 + va % spanN lvl, 0), if adB (bitN e 6) (bitN e 7) kind = 0 then B else { B with ram := stN B.ram (a - 2147483648) 4 (e + adB (bitN e 6) (bitN e 7) kind) })
def entA (table va lvl : Nat) : Nat := table + va / spanN lvl % 1024 * 4
def entE (B : BusS) (a : Nat) : Nat := rdRam B (a - 2147483648) 4
def walk0 (B : BusS) (C : CsrS) (table va kind mode : Nat) : (Nat × Nat) × BusS :=
 if holdsD (entA table va 0 : Nat) 4 B.ram.length = false then ((0, 2), B)
 else if bitN (entE B (entA table va 0)) 0 = false \/ (bitN (entE B (entA table va 0)) 2 = true /\ bitN (entE B (entA table va 0)) 1 = false) then ((0, 1), B)
 else if bitN (entE B (entA table va 0)) 1 = false /\ bitN (entE B (entA table va 0)) 3 = false then ((0, 1), B)
 else leafD B C (entE B (entA table va 0)) (entA table va 0) 0 va kind mode
def walk1 (B : BusS) (C : CsrS) (table va kind mode : Nat) : (Nat × Nat) × BusS :=
 if holdsD (entA table va 1 : Nat) 4 B.ram.length = false then ((0, 2), B)
 else if bitN (entE B (entA table va 1)) 0 = false \/ (bitN (entE B (entA table va 1)) 2 = true /\ bitN (entE B (entA table va 1)) 1 = false) then ((0, 1), B)
 else if bitN (entE B (entA table va 1)) 1 = false /\ bitN (entE B (entA table va 1)) 3 = false then
  (if bitN (entE B (entA table va 1)) 4 = true \/ bitN (entE B (entA table va 1)) 6 = true \/ bitN (entE B (entA table va 1)) 7 = true then ((0, 1), B)
   else walk0 B C (entE B (entA table va 1) / 1024 * 4096) va kind mode)
 else leafD B C (entE B (entA table va 1)) (entA table va 1) 1 va kind mode
theorem entE_lt (B : BusS) (a : Nat) : entE B a < 4294967296 := by
 unfold entE rdRam
 have h := ldN_lt ((B.ram.drop (a - 2147483648)).take 4)
 have hl : ((B.ram.drop (a - 2147483648)).take 4).length <= 4 := by simp; omega
 have h2 : 256 ^ ((B.ram.drop (a - 2147483648)).take 4).length <= 256 ^ 4 := Nat.pow_le_pow_right (by omega) hl
 omega
theorem holdsD_at {a L : Nat} (h : holdsD (a : Nat) 4 L = true) : 2147483648 <= a /\ a - 2147483648 + 4 <= L := by
 unfold holdsD at h
 simp at h
 omega
theorem writeV_ok {B : BusS} (hB : BusOk B) (pa : Int) (v : Nat) (hv : v < 4294967296) : BusOk (writeV B pa v) := by
 have e := hB
 unfold writeV
 repeat' split
 all_goals first
  | exact hB
  | exact ⟨e.ram, by show _ % _ < _; omega, e.time, e.timeh, e.cmp, e.cmph, e.enable, e.scratch, e.rx, e.tx⟩
  | exact ⟨e.ram, e.msip, e.time, e.timeh, hv, e.cmph, e.enable, e.scratch, e.rx, e.tx⟩
  | exact ⟨e.ram, e.msip, e.time, e.timeh, e.cmp, hv, e.enable, e.scratch, e.rx, e.tx⟩
  | exact ⟨e.ram, e.msip, hv, e.timeh, e.cmp, e.cmph, e.enable, e.scratch, e.rx, e.tx⟩
  | exact ⟨e.ram, e.msip, e.time, hv, e.cmp, e.cmph, e.enable, e.scratch, e.rx, e.tx⟩
  | exact ⟨e.ram, e.msip, e.time, e.timeh, e.cmp, e.cmph, by show _ % _ < _; omega, e.scratch, e.rx, e.tx⟩
  | exact ⟨e.ram, e.msip, e.time, e.timeh, e.cmp, e.cmph, e.enable, by show _ % _ < _; omega, e.rx, e.tx⟩
  | (refine ⟨e.ram, e.msip, e.time, e.timeh, e.cmp, e.cmph, e.enable, e.scratch, e.rx, ?_⟩
     show (B.tx ++ strOfNums (leL v 1)).size <= 8
     rw [ByteArray.size_append, strNumsR_size, leLR_length]; omega)
theorem writeV_ram (B : BusS) (pa : Int) (v : Nat) : (writeV B pa v).ram = B.ram := by
 unfold writeV
 exact zq200
theorem setRam_ok {B : BusS} (hB : BusOk B) {r : List UInt8} (h : r.length = B.ram.length) : BusOk { B with ram := r } := ⟨by show r.length <= _; rw [h]; exact hB.ram, hB.msip, hB.time, hB.timeh, hB.cmp, hB.cmph, hB.enable, hB.scratch, hB.rx, hB.tx⟩
theorem writeD_ok {B : BusS} (hB : BusOk B) (pa n : Int) (v : Nat) (hv : v < 4294967296) : BusOk (writeD B pa n v) := by
 unfold writeD
 split
 . exact setRam_ok hB (stN_length _ _ _ _)
 . split
   . exact writeV_ok hB pa v hv
   . exact hB
theorem writeD_len (B : BusS) (pa n : Int) (v : Nat) : (writeD B pa n v).ram.length = B.ram.length := by
 unfold writeD
 split
 . exact stN_length _ _ _ _
 . split
   . rw [writeV_ram]
   . rfl
theorem readV_ok {B : BusS} (hB : BusOk B) (pa : Int) : BusOk (readV B pa).2 := by
 have e := hB
 unfold readV
 repeat' split
 all_goals first
  | exact hB
  | exact ⟨e.ram, e.msip, e.time, e.timeh, e.cmp, e.cmph, e.enable, e.scratch, by show (B.rx.extract 1 B.rx.size).size <= 4; rw [ByteArray.size_extract]; have := e.rx; omega, e.tx⟩
  | exact ⟨e.ram, e.msip, e.time, e.timeh, e.cmp, e.cmph, e.enable, e.scratch, e.rx, e.tx⟩
theorem readV_ram (B : BusS) (pa : Int) : (readV B pa).2.ram = B.ram := by
 unfold readV
 exact zq200
theorem readD_ok {B : BusS} (hB : BusOk B) (pa n : Int) : BusOk (readD B pa n).2 := by
 unfold readD
 split
 . exact hB
 . split
   . exact readV_ok hB pa
   . exact hB
theorem readD_len (B : BusS) (pa n : Int) : (readD B pa n).2.ram.length = B.ram.length := by
 unfold readD
 split
 . rfl
 . split
   . rw [readV_ram]
   . rfl
theorem rdRam_lt (B : BusS) (p n : Nat) : rdRam B p n < 256 ^ n := by
 unfold rdRam
 have h := ldN_lt ((B.ram.drop p).take n)
 have hl : ((B.ram.drop p).take n).length <= n := by simp; omega
 exact Nat.lt_of_lt_of_le h (Nat.pow_le_pow_right (by omega) hl)
theorem why_lt (B : BusS) : whyD B < 256 := by
 unfold whyD
 repeat' split
 all_goals omega
theorem stat_lt (B : BusS) : statD B < 256 := by
 unfold statD
 repeat' split
 all_goals omega
theorem readD_lt {B : BusS} (hB : BusOk B) (pa : Int) (n : Nat) (_hn : 1 <= n) : (readD B pa n).1 < 256 ^ n := by
 have e := hB
 unfold readD
 split
 . rw [Int.toNat_natCast]; exact rdRam_lt _ _ _
 . rename_i h1
   split
   . rename_i h2
     have h1' : holdsD pa n B.ram.length = false := by simpa using h1
     rcases takes_n h1' h2 with ⟨ht, hn⟩ | ⟨hp, hn⟩
     . have hn4 : n = 4 := by omega
       subst hn4
       have a1 := e.msip; have a2 := e.cmp; have a3 := e.cmph; have a4 := e.time; have a5 := e.timeh
       unfold isTmr at ht
       simp at ht
       show (readV B pa).1 < 4294967296
       rcases ht with rfl | rfl | rfl | rfl | rfl <;> simp [readV] <;> omega
     . have hn1 : n = 1 := by omega
       subst hn1
       have a1 := e.enable; have a2 := e.scratch; have a3 := why_lt B; have a4 := stat_lt B
       unfold isPrt at hp
       simp at hp
       show (readV B pa).1 < 256
       rcases hp with rfl | rfl | rfl | rfl | rfl
       . simp only [readV]; simp
         split
         . exact UInt8.toNat_lt _
         . omega
       all_goals (simp [readV]; omega)
   . exact Nat.pos_of_ne_zero (by simp)
theorem leaf_ok {B : BusS} (hB : BusOk B) (C : CsrS) (e a lvl va kind mode : Nat) : BusOk (leafD B C e a lvl va kind mode).2 := by
 unfold leafD
 repeat' split
 all_goals first
  | exact hB
  | exact setRam_ok hB (stN_length _ _ _ _)
theorem leaf_len (B : BusS) (C : CsrS) (e a lvl va kind mode : Nat) : (leafD B C e a lvl va kind mode).2.ram.length = B.ram.length := by
 unfold leafD
 repeat' split
 all_goals first
  | rfl
  | exact stN_length _ _ _ _
theorem leaf_lt (B : BusS) (C : CsrS) (e a lvl va kind mode : Nat) (he : e < 4294967296) : (leafD B C e a lvl va kind mode).1.1 < 17184063488 /\ (leafD B C e a lvl va kind mode).1.2 <= 2 := by
 have hs : va % spanN lvl < 4194304 := by
  unfold spanN; split <;> omega
 unfold leafD
 exact zq201
theorem walk0_ok {B : BusS} (hB : BusOk B) (C : CsrS) (t va kind mode : Nat) : BusOk (walk0 B C t va kind mode).2 := by
 unfold walk0
 repeat' split
 all_goals first
  | exact hB
  | exact leaf_ok hB _ _ _ _ _ _ _
theorem walk0_len (B : BusS) (C : CsrS) (t va kind mode : Nat) : (walk0 B C t va kind mode).2.ram.length = B.ram.length := by
 unfold walk0
 repeat' split
 all_goals first
  | rfl
  | exact leaf_len _ _ _ _ _ _ _ _
theorem walk0_lt (B : BusS) (C : CsrS) (t va kind mode : Nat) : (walk0 B C t va kind mode).1.1 < 17184063488 /\ (walk0 B C t va kind mode).1.2 <= 2 := by
 unfold walk0
 repeat' split
 all_goals first
  | exact leaf_lt _ _ _ _ _ _ _ _ (entE_lt _ _)
  | exact ⟨by dsimp only; omega, by dsimp only; omega⟩
theorem walk1_ok {B : BusS} (hB : BusOk B) (C : CsrS) (t va kind mode : Nat) : BusOk (walk1 B C t va kind mode).2 := by
 unfold walk1
 repeat' split
 all_goals first
  | exact hB
  | exact leaf_ok hB _ _ _ _ _ _ _
  | exact walk0_ok hB _ _ _ _ _
theorem walk1_len (B : BusS) (C : CsrS) (t va kind mode : Nat) : (walk1 B C t va kind mode).2.ram.length = B.ram.length := by
 unfold walk1
 repeat' split
 all_goals first
  | rfl
  | exact leaf_len _ _ _ _ _ _ _ _
  | exact walk0_len _ _ _ _ _ _
theorem walk1_lt (B : BusS) (C : CsrS) (t va kind mode : Nat) : (walk1 B C t va kind mode).1.1 < 17184063488 /\ (walk1 B C t va kind mode).1.2 <= 2 := by
 unfold walk1
 repeat' split
 all_goals first
  | exact leaf_lt _ _ _ _ _ _ _ _ (entE_lt _ _)
  | exact walk0_lt _ _ _ _ _ _
  | exact ⟨by dsimp only; omega, by dsimp only; omega⟩
def pgD (C : CsrS) (kind : Nat) : Bool := if decide (actsD C kind < 3) = true then decide (2147483648 <= C.satp) else false
def trD (B : BusS) (C : CsrS) (va kind : Nat) : (Nat × Nat) × BusS := if pgD C kind = true then walk1 B C (C.satp % 4194304 * 4096) va kind (actsD C kind) else ((va, 0), B)
theorem tr_ok {B : BusS} (hB : BusOk B) (C : CsrS) (va kind : Nat) : BusOk (trD B C va kind).2 := by
 unfold trD; split
 . exact walk1_ok hB _ _ _ _ _
 . exact hB
theorem tr_len (B : BusS) (C : CsrS) (va kind : Nat) : (trD B C va kind).2.ram.length = B.ram.length := by
 unfold trD; split
 . exact walk1_len _ _ _ _ _ _
 . rfl
theorem tr_lt (B : BusS) (C : CsrS) (va kind : Nat) (h : va < 4294967296) : (trD B C va kind).1.1 < 17184063488 /\ (trD B C va kind).1.2 <= 2 := by
 unfold trD; split
 . exact walk1_lt _ _ _ _ _ _
 . exact zq202
def halfP (t : (Nat × Nat) × BusS) : (Nat × Nat) × BusS :=
 if t.1.2 = 0 then (if holdsD (t.1.1 : Nat) 2 t.2.ram.length = true then ((rdRam t.2 (t.1.1 - 2147483648) 2, 0), t.2) else ((0, 2), t.2)) else ((0, t.1.2), t.2)
def halfD (B : BusS) (C : CsrS) (va : Nat) : (Nat × Nat) × BusS := halfP (trD B C va 0)
theorem half_ok {B : BusS} (hB : BusOk B) (C : CsrS) (va : Nat) : BusOk (halfD B C va).2 := by
 have := tr_ok hB C va 0
 unfold halfD halfP
 exact zq203
theorem half_len (B : BusS) (C : CsrS) (va : Nat) : (halfD B C va).2.ram.length = B.ram.length := by
 have := tr_len B C va 0
 unfold halfD halfP
 exact zq203
theorem half_lt (B : BusS) (C : CsrS) (va : Nat) (h : va < 4294967296) : (halfD B C va).1.1 < 65536 /\ (halfD B C va).1.2 <= 2 := by
 have h2 := (tr_lt B C va 0 h).2
 unfold halfD halfP
 repeat' split
 . have h3 := rdRam_lt (trD B C va 0).2 ((trD B C va 0).1.1 - 2147483648) 2
   exact zq202
 . exact zq202
 . exact ⟨by dsimp only; omega, h2⟩
def wordAtP (t : (Nat × Nat) × BusS) : (Nat × Nat) × BusS :=
 if t.1.2 = 0 then (if holdsD (t.1.1 : Nat) 4 t.2.ram.length = true then t else ((0, 2), t.2)) else t
def wordAtD (B : BusS) (C : CsrS) (va kind : Nat) : (Nat × Nat) × BusS := wordAtP (trD B C va kind)
theorem wordAt_ok {B : BusS} (hB : BusOk B) (C : CsrS) (va kind : Nat) : BusOk (wordAtD B C va kind).2 := by
 have := tr_ok hB C va kind
 unfold wordAtD wordAtP
 exact zq203
theorem wordAt_len (B : BusS) (C : CsrS) (va kind : Nat) : (wordAtD B C va kind).2.ram.length = B.ram.length := by
 have := tr_len B C va kind
 unfold wordAtD wordAtP
 exact zq203
theorem wordAt_lt (B : BusS) (C : CsrS) (va kind : Nat) (h : va < 4294967296) : (wordAtD B C va kind).1.1 < 17184063488 /\ (wordAtD B C va kind).1.2 <= 2 := by
 have h2 := tr_lt B C va kind h
 unfold wordAtD wordAtP
 repeat' split
 . exact h2
 . exact zq202
 . exact h2
structure Spn where
 pa1 : Nat
 n1 : Nat
 pa2 : Nat
 n2 : Nat
 fault : Nat
 wh : Nat
def roomD (va n : Nat) : Nat := if 4096 - va % 4096 < n then 4096 - va % 4096 else n
def reach2 (pa k n next : Nat) (u : (Nat × Nat) × BusS) : Spn × BusS :=
 if u.1.2 = 0 then (if takesD (u.1.1 : Nat) ((n - k : Nat) : Int) u.2.ram.length = true then (⟨pa, k, u.1.1, n - k, 0, 0⟩, u.2) else (⟨0, 0, 0, 0, 2, next⟩, u.2)) else (⟨0, 0, 0, 0, u.1.2, next⟩, u.2)
def reach1 (C : CsrS) (va n kind k : Nat) (t : (Nat × Nat) × BusS) : Spn × BusS :=
 if t.1.2 = 0 then (if takesD (t.1.1 : Nat) (k : Nat) t.2.ram.length = true then
  (if k < n then reach2 t.1.1 k n ((va + k) % 4294967296) (trD t.2 C ((va + k) % 4294967296) kind) else (⟨t.1.1, k, 0, 0, 0, 0⟩, t.2))
  else (⟨0, 0, 0, 0, 2, va⟩, t.2)) else (⟨0, 0, 0, 0, t.1.2, va⟩, t.2)
def reachD (B : BusS) (C : CsrS) (va n kind : Nat) : Spn × BusS := reach1 C va n kind (roomD va n) (trD B C va kind)
theorem reach_ok {B : BusS} (hB : BusOk B) (C : CsrS) (va n kind : Nat) : BusOk (reachD B C va n kind).2 := by
 have h1 := tr_ok hB C va kind
 have h2 := tr_ok h1 C ((va + roomD va n) % 4294967296) kind
 unfold reachD reach1 reach2
 repeat' split
 all_goals first | exact h1 | exact h2
theorem reach_len (B : BusS) (C : CsrS) (va n kind : Nat) : (reachD B C va n kind).2.ram.length = B.ram.length := by
 have h1 := tr_len B C va kind
 have h2 := tr_len (trD B C va kind).2 C ((va + roomD va n) % 4294967296) kind
 unfold reachD reach1 reach2
 repeat' split
 all_goals first | exact h1 | exact h2.trans h1
structure SpnOk (s : Spn) (n : Nat) : Prop where
 pa1 : s.pa1 < 17184063488
 pa2 : s.pa2 < 17184063488
 fault : s.fault <= 2
 wh : s.wh < 4294967296
 n1 : s.fault = 0 -> 1 <= s.n1
 sum : s.fault = 0 -> s.n1 + s.n2 = n
 le : s.n1 + s.n2 <= n
theorem reach_sp (B : BusS) (C : CsrS) (va n kind : Nat) (hv : va < 4294967296) (hn : 1 <= n) : SpnOk (reachD B C va n kind).1 n := by
 have h1 := tr_lt B C va kind hv
 have hr : 1 <= roomD va n /\ roomD va n <= n := zq6
 have hx : (va + roomD va n) % 4294967296 < 4294967296 := by omega
 have h2 := tr_lt (trD B C va kind).2 C ((va + roomD va n) % 4294967296) kind hx
 unfold reachD reach1 reach2
 obtain ⟨k, hk⟩ := zn1 (roomD va n)
 rw [<- hk] at hr hx h2 |-
 repeat' split
 all_goals exact ⟨by dsimp only; omega, by dsimp only; omega, by dsimp only; omega, by dsimp only; omega, by dsimp only; omega, by dsimp only; omega, by dsimp only; omega⟩
def loadD (B : BusS) (s : Spn) : Nat × BusS :=
 if 0 < s.n2 then ((readD B s.pa1 s.n1).1 + (readD (readD B s.pa1 s.n1).2 s.pa2 s.n2).1 * 256 ^ s.n1, (readD (readD B s.pa1 s.n1).2 s.pa2 s.n2).2) else readD B s.pa1 s.n1
theorem load_ok {B : BusS} (hB : BusOk B) (s : Spn) : BusOk (loadD B s).2 := by
 unfold loadD; split
 . exact readD_ok (readD_ok hB _ _) _ _
 . exact readD_ok hB _ _
theorem load_len (B : BusS) (s : Spn) : (loadD B s).2.ram.length = B.ram.length := by
 unfold loadD; split
 . exact (readD_len _ _ _).trans (readD_len _ _ _)
 . exact readD_len _ _ _
theorem load_lt {B : BusS} (hB : BusOk B) (s : Spn) (h : 1 <= s.n1) : (loadD B s).1 < 256 ^ (s.n1 + s.n2) := by
 have h1 := readD_lt hB s.pa1 s.n1 h
 unfold loadD; split
 . rename_i h2
   have h3 := readD_lt (readD_ok hB s.pa1 s.n1) s.pa2 s.n2 h2
   dsimp only
   rw [Nat.pow_add]
   obtain ⟨a, ha⟩ := zn1 ((readD B s.pa1 s.n1).1)
   obtain ⟨b, hb⟩ := zn1 ((readD (readD B s.pa1 s.n1).2 s.pa2 s.n2).1)
   rw [<- ha] at h1 |-
   rw [<- hb] at h3 |-
   obtain ⟨x, hx⟩ := zn1 (256 ^ s.n1)
   obtain ⟨y, hy⟩ := zn1 (256 ^ s.n2)
   rw [<- hx] at h1 |-
   rw [<- hy] at h3 |-
   calc a + b * x < x + b * x := by omega
    _ = (b + 1) * x := by rw [Nat.add_mul]; omega
    _ <= y * x := Nat.mul_le_mul_right _ h3
    _ = x * y := Nat.mul_comm _ _
 . rename_i h2
   have h0 : s.n2 = 0 := by omega
   rw [h0]; exact h1
def storeD (B : BusS) (s : Spn) (v : Nat) : BusS := if 0 < s.n2 then writeD (writeD B s.pa1 s.n1 v) s.pa2 s.n2 (v / 256 ^ s.n1) else writeD B s.pa1 s.n1 v
theorem store_ok {B : BusS} (hB : BusOk B) (s : Spn) (v : Nat) (hv : v < 4294967296) : BusOk (storeD B s v) := by
 have h2 : v / 256 ^ s.n1 < 4294967296 := Nat.lt_of_le_of_lt (Nat.div_le_self _ _) hv
 unfold storeD; split
 . exact writeD_ok (writeD_ok hB _ _ _ hv) _ _ _ h2
 . exact writeD_ok hB _ _ _ hv
theorem store_len (B : BusS) (s : Spn) (v : Nat) : (storeD B s v).ram.length = B.ram.length := by
 unfold storeD; split
 . exact (writeD_len _ _ _ _).trans (writeD_len _ _ _ _)
 . exact writeD_len _ _ _ _
theorem bv_nat (a : Nat) (h : a < 9223372036854775808) : (BitVec.ofInt 64 (a : Int)).toNat = a := by
 rw [BitVec.toNat_ofInt]
 have e : ((2 ^ 64 : Nat) : Int) = 18446744073709551616 := by decide
 rw [e, Int.emod_eq_of_lt (by omega) (by omega)]; omega
theorem wrap_nat63 (a : Nat) (h : a < 9223372036854775808) : IntKind.i64.wrap (a : Int) = a := by rw [IntKind.wrap_i64]; omega
theorem nat_or_lt (a b n : Nat) (ha : a < 2 ^ n) (hb : b < 2 ^ n) : (a ||| b) < 2 ^ n := Nat.or_lt_two_pow ha hb
theorem b_and (a b : Nat) (ha : a < 9223372036854775808) (hb : b < 9223372036854775808) : bits .and .i64 (a : Int) (b : Int) = ((a &&& b : Nat) : Int) := by
 have hx : bits .and .i64 (a : Int) (b : Int) = IntKind.i64.wrap (((BitVec.ofInt 64 (a : Int) &&& BitVec.ofInt 64 (b : Int)).toNat : Nat) : Int) := rfl
 rw [hx, BitVec.toNat_and, bv_nat a ha, bv_nat b hb]
 exact wrap_nat63 _ (Nat.lt_of_le_of_lt Nat.and_le_left ha)
theorem b_or (a b : Nat) (ha : a < 9223372036854775808) (hb : b < 9223372036854775808) : bits .or .i64 (a : Int) (b : Int) = ((a ||| b : Nat) : Int) := by
 have hx : bits .or .i64 (a : Int) (b : Int) = IntKind.i64.wrap (((BitVec.ofInt 64 (a : Int) ||| BitVec.ofInt 64 (b : Int)).toNat : Nat) : Int) := rfl
 rw [hx, BitVec.toNat_or, bv_nat a ha, bv_nat b hb]
 exact wrap_nat63 _ (nat_or_lt a b 63 ha hb)
theorem b_xor (a b : Nat) (ha : a < 9223372036854775808) (hb : b < 9223372036854775808) : bits .xor .i64 (a : Int) (b : Int) = ((a ^^^ b : Nat) : Int) := by
 have hx : bits .xor .i64 (a : Int) (b : Int) = IntKind.i64.wrap (((BitVec.ofInt 64 (a : Int) ^^^ BitVec.ofInt 64 (b : Int)).toNat : Nat) : Int) := rfl
 rw [hx, BitVec.toNat_xor, bv_nat a ha, bv_nat b hb]
 exact wrap_nat63 _ (Nat.xor_lt_two_pow (n := 63) ha hb)
theorem wout_eq (a m n : Nat) (ha : a < 2 ^ n) : (a &&& (2 ^ n - (m % 2 ^ n + 1))) = wout a m := by
 have h1 := or_and _ (a &&& (2 ^ n - (m % 2 ^ n + 1))) (a &&& m) (Nat.le_refl _)
 have hm : m % 2 ^ n < 2 ^ n := Nat.mod_lt _ (Nat.two_pow_pos n)
 have e1 : ((a &&& (2 ^ n - (m % 2 ^ n + 1))) ||| (a &&& m)) = a := by
  refine Nat.eq_of_testBit_eq fun i => ?_
  rw [Nat.testBit_or, Nat.testBit_and, Nat.testBit_and, Nat.testBit_two_pow_sub_succ hm, Nat.testBit_mod_two_pow]
  by_cases hi : i < n
  . cases a.testBit i <;> cases m.testBit i <;> simp [hi]
  . have : a.testBit i = false := Nat.testBit_lt_two_pow (Nat.lt_of_lt_of_le ha (Nat.pow_le_pow_right (by omega) (by omega)))
    simp [this]
 have e2 : ((a &&& (2 ^ n - (m % 2 ^ n + 1))) &&& (a &&& m)) = 0 := by
  refine Nat.eq_of_testBit_eq fun i => ?_
  rw [Nat.testBit_and, Nat.testBit_and, Nat.testBit_and, Nat.testBit_two_pow_sub_succ hm, Nat.testBit_mod_two_pow]
  by_cases hi : i < n
  . cases a.testBit i <;> cases m.testBit i <;> simp [hi]
  . simp [hi]
 rw [e1, e2] at h1
 unfold wout
 omega
theorem b_andn (a b : Nat) (ha : a < 9223372036854775808) (hb : b < 9223372036854775808) : bits .andNot .i64 (a : Int) (b : Int) = ((wout a b : Nat) : Int) := by
 have hx : bits .andNot .i64 (a : Int) (b : Int) = IntKind.i64.wrap (((BitVec.ofInt 64 (a : Int) &&& ~~~ BitVec.ofInt 64 (b : Int)).toNat : Nat) : Int) := rfl
 have e : (~~~ BitVec.ofInt 64 (b : Int)).toNat = 2 ^ 64 - (b % 2 ^ 64 + 1) := by
  rw [BitVec.toNat_not, bv_nat b hb, Nat.mod_eq_of_lt (Nat.lt_of_lt_of_le hb (by decide))]; omega
 rw [hx, BitVec.toNat_and, bv_nat a ha, e, wout_eq a b 64 (Nat.lt_of_lt_of_le ha (by decide))]
 exact wrap_nat63 _ (by unfold wout; omega)
theorem wout_le (a b : Nat) : wout a b <= a := by unfold wout; omega
namespace Pic
def okBit (x : UInt8) (b : Nat) : Bool := !(x == 48 && b == 1) && !(x == 49 && b == 0)
def fits : List UInt8 -> Nat -> Bool
 | [], _ => true
 | x :: q, w => okBit x (w % 2) && fits q (w / 2)
def val (m : UInt8 -> Bool) : List UInt8 -> Nat -> Nat
 | [], _ => 0
 | x :: q, w => bif m x then w % 2 + 2 * val m q (w / 2) else val m q (w / 2)
def cnt (m : UInt8 -> Bool) : List UInt8 -> Nat
 | [] => 0
 | x :: q => bif m x then 1 + cnt m q else cnt m q
def isLet (x : UInt8) : Bool := decide (97 <= x.toNat) && decide (x.toNat <= 122)
def sum : List UInt8 -> Nat -> Nat
 | [], _ => 0
 | x :: q, w => (bif isLet x then (w % 2) * 2 ^ (x.toNat - 97) else 0) + sum q (w / 2)
def high : List UInt8 -> Nat
 | [] => 0
 | x :: q => bif isLet x then max (2 ^ (x.toNat - 97)) (high q) else high q
theorem val_lt (m : UInt8 -> Bool) : ∀ q w, val m q w < 2 ^ cnt m q
 | [], _ => by simp [val, cnt]
 | x :: q, w => by
  have h := val_lt m q (w / 2)
  cases hm : m x <;> simp [val, cnt, hm]
  . exact h
  . rw [Nat.pow_add]; omega
def most : List UInt8 -> Nat
 | [] => 0
 | x :: q => (bif isLet x then 2 ^ (x.toNat - 97) else 0) + most q
theorem sum_le_most : ∀ q w, sum q w <= most q
 | [], _ => by simp [sum, most]
 | x :: q, w => by
  have h := sum_le_most q (w / 2)
  have hb : w % 2 <= 1 := by omega
  cases hl : isLet x <;> simp only [sum, most, hl, cond_false, cond_true]
  . omega
  . have : w % 2 * 2 ^ (x.toNat - 97) <= 1 * 2 ^ (x.toNat - 97) := Nat.mul_le_mul_right _ hb
    omega
def imm (q : List UInt8) (neg : Bool) (w : Nat) : Int :=
 if neg = true /\ high q <= sum q w then (sum q w : Int) - 2 * (high q : Int) else (sum q w : Int)
def draw : List UInt8 -> Int -> Int -> Int -> Int -> Nat
 | [], _, _, _, _ => 0
 | x :: q, rd, rs1, rs2, im =>
  if x = 49 then 1 + 2 * draw q rd rs1 rs2 im
  else if x = 68 \/ x = 66 then (rd % 2).toNat + 2 * draw q (rd / 2) rs1 rs2 im
  else if x = 83 then (rs1 % 2).toNat + 2 * draw q rd (rs1 / 2) rs2 im
  else if x = 84 then (rs2 % 2).toNat + 2 * draw q rd rs1 (rs2 / 2) im
  else if isLet x = true then (im / 2 ^ (x.toNat - 97) % 2).toNat + 2 * draw q rd rs1 rs2 im
  else 2 * draw q rd rs1 rs2 im
theorem draw_lt : ∀ q rd rs1 rs2 im, draw q rd rs1 rs2 im < 2 ^ q.length
 | [], _, _, _, _ => by simp [draw]
 | x :: q, rd, rs1, rs2, im => by
  have h1 := draw_lt q rd rs1 rs2 im
  have h2 := draw_lt q (rd / 2) rs1 rs2 im
  have h3 := draw_lt q rd (rs1 / 2) rs2 im
  have h4 := draw_lt q rd rs1 (rs2 / 2) im
  simp only [draw, List.length_cons, Nat.pow_succ]
  repeat' split
  all_goals omega
theorem imm_of (q : List UInt8) (neg : Bool) (w : Nat) : imm q neg w = if neg = true /\ high q <= sum q w then (sum q w : Int) - 2 * (high q : Int) else (sum q w : Int) := rfl
def rv (l : List UInt8) (j : Nat) : List UInt8 := (l.take j).reverse
theorem rv_zero (l : List UInt8) : rv l 0 = [] := rfl
theorem rv_succ (l : List UInt8) (i : Nat) (h : i < l.length) : rv l (i + 1) = l[i] :: rv l i := by
 unfold rv; rw [List.take_succ_eq_append_getElem h, List.reverse_append]; rfl
theorem rv_length (l : List UInt8) (j : Nat) (h : j <= l.length) : (rv l j).length = j := by unfold rv; simp; omega
theorem cnt_le (m : UInt8 -> Bool) : ∀ q, cnt m q <= q.length
 | [] => by simp [cnt]
 | x :: q => by
  have := cnt_le m q
  cases hm : m x <;> simp [cnt, hm] <;> omega
end Pic
theorem and_mask (x : Int) (n : Nat) (hn : n <= 62) : bits .and .i64 x ((2 ^ n - 1 : Nat) : Int) = x % 2 ^ n := by
 have e1 : ((2 : Int) ^ n) = ((2 ^ n : Nat) : Int) := by simp
 have hp : 2 ^ n <= 2 ^ 62 := Nat.pow_le_pow_right (by decide) hn
 have h62 : (2 : Nat) ^ 62 = 4611686018427387904 := by decide
 have h1 : 1 <= 2 ^ n := Nat.one_le_two_pow
 have ha : (BitVec.ofInt 64 x &&& BitVec.ofInt 64 ((2 ^ n - 1 : Nat) : Int)).toNat = (x % 2 ^ n).toNat := by
  rw [BitVec.toNat_and, BitVec.toNat_ofInt, BitVec.toNat_ofInt]
  have e2 : (((2 ^ n - 1 : Nat) : Int) % ((2 ^ 64 : Nat) : Int)).toNat = 2 ^ n - 1 := by
   rw [Int.emod_eq_of_lt (by omega) (by have : (2 : Nat) ^ 64 = 18446744073709551616 := (by decide); omega)]; omega
  rw [e2, Nat.and_two_pow_sub_one_eq_mod, e1]
  have hd : (2 ^ n : Nat) ∣ 2 ^ 64 := Nat.pow_dvd_pow 2 (by omega)
  have e3 : ((x % ((2 ^ 64 : Nat) : Int)).toNat : Int) = x % ((2 ^ 64 : Nat) : Int) := Int.toNat_of_nonneg (Int.emod_nonneg _ (by decide))
  have e4 : (((x % ((2 ^ 64 : Nat) : Int)).toNat % 2 ^ n : Nat) : Int) = x % ((2 ^ n : Nat) : Int) := by
   rw [Int.natCast_emod, e3]
   exact Int.emod_emod_of_dvd x (Int.natCast_dvd_natCast.2 hd)
  omega
 have hb : bits .and .i64 x ((2 ^ n - 1 : Nat) : Int) = IntKind.i64.wrap (((BitVec.ofInt 64 x &&& BitVec.ofInt 64 ((2 ^ n - 1 : Nat) : Int)).toNat : Nat) : Int) := rfl
 rw [hb, ha, IntKind.wrap_i64]
 have h2 : x % 2 ^ n < 2 ^ n := Int.emod_lt_of_pos _ (by rw [e1]; omega)
 have h3 : 0 <= x % 2 ^ n := Int.emod_nonneg _ (by rw [e1]; omega)
 rw [e1] at h2 h3 |-
 omega
theorem and_one (x : Int) : bits .and .i64 x 1 = x % 2 := and_mask x 1 (by decide)
theorem and_three (x : Int) : bits .and .i64 x 3 = x % 4 := and_mask x 2 (by decide)
theorem i_isLet (c : UInt8) (w : World) :
 CS 211 #[.int .u8 (c.toNat : Int)] (.bool (Pic.isLet c)) w := by
 by_cases h1 : (97 : Int) <= c.toNat
 . by_cases h2 : (c.toNat : Int) <= 122
   . go_enter func211, ntmps211
     go_wp2
     go_ret
     exact ⟨by rw [show Pic.isLet c = true by simp [Pic.isLet]; omega]; rfl, rfl⟩
   . exact zq204
 . exact zq204
theorem u8_eq {c : UInt8} {n : Nat} (hn : n < 256) : (c.toNat : Int) = n ↔ c = UInt8.ofNat n := zq192
theorem okBit_of {c : UInt8} {x : Nat} {q : List UInt8} {t : Bool} (h : Hid (Pic.fits (c :: q) x = t)) : t = (Pic.okBit c (x % 2) && Pic.fits q (x / 2)) := h.out.symm
theorem okBit_0 {c : UInt8} {x : Nat} (h : (c.toNat : Int) = 48) : Pic.okBit c (x % 2) = !(x % 2 == 1) := by
 have : c = 48 := (u8_eq (n := 48) (by decide)).1 h
 subst this; simp [Pic.okBit]
theorem okBit_1 {c : UInt8} {x : Nat} (h : (c.toNat : Int) = 49) : Pic.okBit c (x % 2) = !(x % 2 == 0) := by
 have : c = 49 := (u8_eq (n := 49) (by decide)).1 h
 subst this; simp [Pic.okBit]
theorem okBit_x {c : UInt8} {x : Nat} (h : ¬ (c.toNat : Int) = 48) (h1 : ¬ (c.toNat : Int) = 49) : Pic.okBit c (x % 2) = true := by
 have a : c ≠ 48 := fun e => h ((u8_eq (n := 48) (by decide)).2 e)
 have b : c ≠ 49 := fun e => h1 ((u8_eq (n := 49) (by decide)).2 e)
 simp [Pic.okBit, a, b]
theorem rv_at (s : ByteArray) (i : Nat) (h : i < s.size) : Pic.rv s.data.toList (i + 1) = s[i] :: Pic.rv s.data.toList i := by
 rw [Pic.rv_succ _ _ (by simpa using h)]; rfl
theorem i_fixed (s : ByteArray) (hs : s.size <= 32) (W : Nat) (hW : W < 4294967296) (w : World) :
 CS 208 #[.string s, .int .i64 W] (.bool (Pic.fits (Pic.rv s.data.toList s.size) W)) w := by
 go_enter func208, ntmps208
 go_wp2
 go_loop [1, 5] (fun y k => ∃ j x : Nat, j <= s.size /\ x < 4294967296 /\ k = .int .i64 ((j : Int) - 1) /\ y = .int .i64 x /\ Hid (Pic.fits (Pic.rv s.data.toList j) x = Pic.fits (Pic.rv s.data.toList s.size) W)) (fun _ k => (intOf k + 1).toNat)
 case atStart => exact ⟨s.size, W, Nat.le_refl _, hW, rfl, rfl, rfl⟩
 case round =>
  obtain ⟨j, x, hj, hx, rfl, rfl, hh⟩ := hrel
  cases j with
  | zero =>
   go_wp2
   go_ret
   exact ⟨by rw [<- hh.out]; rfl, rfl⟩
  | succ i =>
   have e : ((i + 1 : Nat) : Int) - 1 = (i : Int) := by omega
   rw [e]
   have hi : i < s.size := by omega
   rw [rv_at s i hi] at hh
   have h1 := and_one (x : Int)
   go_wp2
   . go_ret
     have a : (s[i].toNat : Int) = 48 := by assumption
     have b : (x : Int) % 2 = 1 := by assumption
     exact ⟨by rw [okBit_of hh, okBit_0 a, show (x % 2 == 1) = true by simp; omega]; rfl, rfl⟩
   . have a : (s[i].toNat : Int) = 48 := by assumption
     have b : ¬ (x : Int) % 2 = 1 := by assumption
     go_round
     case rel => exact ⟨i, x / 2, by omega, by omega, by go_num, by go_num, by rw [okBit_of hh, okBit_0 a, show (x % 2 == 1) = false by simp; omega]; rfl⟩
     case measure => simp [intOf]
   . go_ret
     have a : (s[i].toNat : Int) = 49 := by assumption
     have b : ((x : Int) % 2 == 0) = true := by assumption
     rw [beq_iff_eq] at b
     exact ⟨by rw [okBit_of hh, okBit_1 a, show (x % 2 == 0) = true by simp; omega]; rfl, rfl⟩
   . have a : (s[i].toNat : Int) = 49 := by assumption
     have b : ((x : Int) % 2 == 0) = false := by assumption
     rw [beq_eq_false_iff_ne] at b
     go_round
     case rel => exact ⟨i, x / 2, by omega, by omega, by go_num, by go_num, by rw [okBit_of hh, okBit_1 a, show (x % 2 == 0) = false by simp; omega]; rfl⟩
     case measure => simp [intOf]
   . have a : ¬ (s[i].toNat : Int) = 48 := by assumption
     have b : ¬ (s[i].toNat : Int) = 49 := by assumption
     go_round
     case rel => exact ⟨i, x / 2, by omega, by omega, by go_num, by go_num, by rw [okBit_of hh, okBit_x a b]; rfl⟩
     case measure => simp [intOf]
theorem val_hit {m : UInt8 -> Bool} {c : UInt8} {q : List UInt8} {x n t V C : Nat} (hm : m c = true) (h : Hid (n + t * Pic.val m (c :: q) x = V /\ t * 2 ^ Pic.cnt m (c :: q) = C)) :
 Hid (n + x % 2 * t + (t * 2) * Pic.val m q (x / 2) = V /\ (t * 2) * 2 ^ Pic.cnt m q = C) := by
 obtain ⟨h1, h2⟩ := h.out
 simp only [Pic.val, Pic.cnt, hm, cond_true, Nat.pow_add] at h1 h2
 refine ⟨?_, by rw [<- h2, Nat.mul_assoc]⟩
 rw [<- h1, Nat.mul_add, Nat.mul_assoc t 2, Nat.mul_comm (x % 2) t]; omega
theorem val_miss {m : UInt8 -> Bool} {c : UInt8} {q : List UInt8} {x n t V C : Nat} (hm : m c = false) (h : Hid (n + t * Pic.val m (c :: q) x = V /\ t * 2 ^ Pic.cnt m (c :: q) = C)) :
 Hid (n + t * Pic.val m q (x / 2) = V /\ t * 2 ^ Pic.cnt m q = C) := by
 obtain ⟨h1, h2⟩ := h.out
 simp only [Pic.val, Pic.cnt, hm, cond_false] at h1 h2
 exact ⟨h1, h2⟩
theorem val_bd {m : UInt8 -> Bool} {l : List UInt8} {q : List UInt8} {x n t V W : Nat} (hl : l.length <= 32) (hV : V = Pic.val m l W) (h : Hid (n + t * Pic.val m q x = V /\ t * 2 ^ Pic.cnt m q = 2 ^ Pic.cnt m l)) : n < 4294967296 /\ 1 <= t /\ t <= 4294967296 := by
 obtain ⟨h1, h2⟩ := h.out
 have a := Pic.val_lt m l W
 have b := Pic.cnt_le m l
 have c : 2 ^ Pic.cnt m l <= 2 ^ 32 := zq4
 have d : (2 : Nat) ^ 32 = 4294967296 := by decide
 have e : 1 <= 2 ^ Pic.cnt m q := Nat.one_le_two_pow
 have f : t * 1 <= t * 2 ^ Pic.cnt m q := Nat.mul_le_mul_left _ e
 have g : 1 <= 2 ^ Pic.cnt m l := Nat.one_le_two_pow
 refine ⟨by omega, ?_, by omega⟩
 rcases Nat.eq_zero_or_pos t with h | h
 . subst h; omega
 . exact h
def regOf (s : ByteArray) (c : UInt8) (W : Nat) : Nat :=
 let l := Pic.rv s.data.toList s.size
 if Pic.cnt (· == c) l = 3 then Pic.val (· == c) l W + 8 else Pic.val (· == c) l W
theorem pow_3 {n : Nat} : 2 ^ n = 8 ↔ n = 3 := by
 constructor
 . intro h
   have : (2 : Nat) ^ n = 2 ^ 3 := h
   exact (Nat.pow_right_inj (by decide)).1 this
 . intro h; subst h; rfl
theorem reg_8 {s : ByteArray} {c : UInt8} {W V nn tt : Nat} (HV : Hid (Pic.val (· == c) (Pic.rv s.data.toList s.size) W = V)) (Q1 : Hid (nn = V))
 (Q2 : Hid (tt = 2 ^ Pic.cnt (· == c) (Pic.rv s.data.toList s.size))) (H3 : Hid (tt = 8)) : regOf s c W = nn + 8 := by
 unfold regOf
 rw [if_pos (pow_3.1 (by rw [<- Q2.out]; exact H3.out)), HV.out, Q1.out]
theorem reg_n {s : ByteArray} {c : UInt8} {W V nn tt : Nat} (HV : Hid (Pic.val (· == c) (Pic.rv s.data.toList s.size) W = V)) (Q1 : Hid (nn = V))
 (Q2 : Hid (tt = 2 ^ Pic.cnt (· == c) (Pic.rv s.data.toList s.size))) (H3 : ¬ tt = 8) : regOf s c W = nn := by
 unfold regOf
 rw [if_neg (fun h => H3 (by rw [Q2.out]; exact pow_3.2 h)), HV.out, Q1.out]
theorem i_register (s : ByteArray) (hs : s.size <= 32) (c : UInt8) (W : Nat) (hW : W < 4294967296) (w : World) :
 CS 296 #[.string s, .int .u8 (c.toNat : Int), .int .i64 W] (.int .i64 (regOf s c W)) w := by
 have hlen : (Pic.rv s.data.toList s.size).length <= 32 := by rw [Pic.rv_length _ _ (by simp)]; exact hs
 generalize hV : Pic.val (· == c) (Pic.rv s.data.toList s.size) W = V
 have HV : Hid (Pic.val (· == c) (Pic.rv s.data.toList s.size) W = V) := hV
 clear hV
 go_enter func296, ntmps296
 go_wp2
 go_loop [2, 7, 8, 9] (fun y n t k => ∃ j x nn tt : Nat, j <= s.size /\ x < 4294967296 /\ k = .int .i64 ((j : Int) - 1) /\ y = .int .i64 x /\ n = .int .i64 nn /\ t = .int .i64 tt /\
  Hid (nn + tt * Pic.val (· == c) (Pic.rv s.data.toList j) x = V /\ tt * 2 ^ Pic.cnt (· == c) (Pic.rv s.data.toList j) = 2 ^ Pic.cnt (· == c) (Pic.rv s.data.toList s.size))) (fun _ _ _ k => (intOf k + 1).toNat)
 case atStart => exact ⟨s.size, W, 0, 1, Nat.le_refl _, hW, rfl, rfl, rfl, rfl, ⟨by rw [HV.out]; omega, by omega⟩⟩
 case round =>
  obtain ⟨j, x, nn, tt, hj, hx, rfl, rfl, rfl, rfl, hh⟩ := hrel
  obtain ⟨b1, b2, b3⟩ := val_bd hlen HV.out.symm hh
  cases j with
  | zero =>
   obtain ⟨q1, q2⟩ := hh.out
   simp only [Pic.rv_zero, Pic.val, Pic.cnt, Nat.mul_zero, Nat.add_zero, Nat.pow_zero, Nat.mul_one] at q1 q2
   have Q2 : Hid (tt = 2 ^ Pic.cnt (· == c) (Pic.rv s.data.toList s.size)) := q2
   have Q1 : Hid (nn = V) := q1
   clear q1 q2 hh
   by_cases h3 : tt = 8
   . have h4 : ((tt : Int) == 8) = true := by rw [beq_iff_eq]; omega
     have H3 : Hid (tt = 8) := h3
     clear h3
     go_wp2
     go_ret
     exact ⟨congrArg (fun z => Ending.returned (Value.int .i64 z)) (by rw [reg_8 HV Q1 Q2 H3]; omega), rfl⟩
   . have h4 : ((tt : Int) == 8) = false := by rw [beq_eq_false_iff_ne]; omega
     go_wp2
     go_ret
     exact ⟨congrArg (fun z => Ending.returned (Value.int .i64 z)) (by rw [reg_n HV Q1 Q2 h3]), rfl⟩
  | succ i =>
   have e : ((i + 1 : Nat) : Int) - 1 = (i : Int) := by omega
   rw [e]
   have hi : i < s.size := by omega
   rw [rv_at s i hi] at hh
   by_cases hc : s[i] = c
   . have hc' : (s[i].toNat : Int) == c.toNat := by rw [hc]; simp
     have hm : (fun z => z == c) s[i] = true := by simp [hc]
     have H2 := val_hit (m := (· == c)) (c := s[i]) hm hh
     have HC : Hid (s[i] = c) := hc
     clear hc hh hm
     have bb := (val_bd hlen HV.out.symm H2).1
     rcases Nat.mod_two_eq_zero_or_one x with hp | hp
     . have h1 : bits BinOp.and IntKind.i64 (x : Int) 1 = 0 := by rw [and_one]; omega
       rw [hp] at H2 bb
       have HP : Hid (x % 2 = 0) := hp
       clear hp
       go_wp2
       go_round
       case rel => exact ⟨i, x / 2, nn, tt * 2, by omega, by omega, by go_num, by go_num, by go_num, by go_num, by simpa using H2⟩
       case measure => simp [intOf]
     . have h1 : bits BinOp.and IntKind.i64 (x : Int) 1 = 1 := by rw [and_one]; omega
       rw [hp] at H2 bb
       have HP : Hid (x % 2 = 1) := hp
       clear hp
       go_wp2
       go_round
       case rel => exact ⟨i, x / 2, nn + tt, tt * 2, by omega, by omega, by go_num, by go_num, by go_num, by go_num, by simpa using H2⟩
       case measure => simp [intOf]
   . have hc' : ((s[i].toNat : Int) == c.toNat) = false := by
      rw [beq_eq_false_iff_ne]; intro h; exact hc (UInt8.toNat_inj.1 (by omega))
     have hm : (fun z => z == c) s[i] = false := by simp [hc]
     have H2 := val_miss (m := (· == c)) (c := s[i]) hm hh
     clear hc hh hm
     go_wp2
     exact zq205
theorem ret_intE {k : IntKind} {a b : Int} (h : a = b) : Ending.returned (.int k a) = .returned (.int k b) := by rw [h]
theorem ret_boolE {a b : Bool} (h : a = b) : Ending.returned (.bool a) = .returned (.bool b) := by rw [h]
theorem x_word (v : Int) (w : World) :
 CS 135 #[.int .i64 v] (.int .i64 (wordN v)) w := by
 have h : bits .and .i64 v 4294967295 = (wordN v : Int) := by rw [wordN_cast]; exact and_mask v 32 (by decide)
 go_enter func135, ntmps135
 exact zq206
def xextD (v n : Int) : Int := if n = 1 then (if 128 <= v then v - 256 else v) else if n = 2 then (if 32768 <= v then v - 65536 else v) else (if 2147483648 <= v then v - 4294967296 else v)
theorem x_extended (v n : Int) (h0 : 0 <= v) (hv : v < 4294967296) (w : World) :
 CS 270 #[.int .i64 v, .int .i64 n] (.int .i64 (xextD v n)) w := by
 obtain ⟨T, hT⟩ := zn1 (xextD v n)
 rw [<- hT]
 unfold xextD at hT
 have HT := hide1 hT
 clear hT
 go_enter func270, ntmps270
 go_wp2_with fail
 all_goals (go_ret; refine ⟨ret_intE ?_, rfl⟩; rw [HT.out]; simp_all; try omega)
theorem x_signed (v : Nat) (hv : v < 4294967296) (w : World) :
 CS 263 #[.int .i64 v] (.int .i64 (sgn v)) w := by
 have e : sgn v = xextD v 4 := by unfold sgn xextD; simp
 rw [e]
 have E := hide1 (x_extended v 4 (by omega) (by omega) w)
 clear e
 go_enter func263, ntmps263
 go_wp2_with (go_at_call 270; refine E.out.mono ?_; rintro e w' ⟨rfl, rfl⟩)
 exact zq191
theorem x_oneIf (b : Bool) (w : World) :
 CS 255 #[.bool b] (.int .i64 (b.toNat : Int)) w := by
 cases b
 all_goals
  go_enter func255, ntmps255
  go_wp2_with fail
  go_ret
  exact ⟨rfl, rfl⟩
theorem x_choose (c : Bool) (a b : Int) (w : World) :
 CS 347 #[.bool c, .int .i64 a, .int .i64 b] (.int .i64 (bif c then a else b)) w := by
 cases c
 all_goals
  go_enter func347, ntmps347
  go_wp2_with fail
  go_ret
  exact ⟨rfl, rfl⟩
def xhbD (v n : Nat) : Bool := decide (v / 2 ^ n % 2 = 1)
theorem shr_nat (v n : Nat) (hv : v < 4294967296) : (v : Int) / 2 ^ min n 64 = ((v / 2 ^ n : Nat) : Int) := by
 by_cases h : n <= 64
 . rw [Nat.min_eq_left h]; simp
 . have e1 : v / 2 ^ n = 0 := by
    apply Nat.div_eq_of_lt
    exact Nat.lt_of_lt_of_le hv (Nat.le_trans (show 4294967296 <= 2 ^ 32 by decide) (Nat.pow_le_pow_right (by omega) (by omega)))
   have e2 : min n 64 = 64 := by omega
   rw [e1, e2]
   have : (2 : Int) ^ 64 = 18446744073709551616 := by decide
   rw [this]; omega
theorem x_hasBit (v n : Nat) (hv : v < 4294967296) (w : World) :
 CS 187 #[.int .i64 v, .int .i64 n] (.bool (xhbD v n)) w := by
 have h := shr_nat v n hv
 have h2 : bits .and .i64 ((v / 2 ^ n : Nat) : Int) 1 = ((v / 2 ^ n % 2 : Nat) : Int) := by rw [and_one]; simp
 obtain ⟨q, hq⟩ := zn1 (v / 2 ^ n)
 rw [<- hq] at h h2
 have hh : xhbD v n = decide (q % 2 = 1) := by rw [hq]; rfl
 rw [hh]
 clear hq hh
 have hp : (((q % 2 : Nat) : Int) != 0) = decide (q % 2 = 1) := by
  rcases Nat.mod_two_eq_zero_or_one q with e | e <;> rw [e] <;> rfl
 obtain ⟨r, hr⟩ := zn1 (q % 2)
 rw [<- hr] at h2 hp |-
 clear hr
 go_enter func187, ntmps187
 exact zq206
theorem x_setIf (v m : Nat) (so : Bool) (hv : v < 4294967296) (hm : m < 4294967296) (w : World) :
 CS 258 #[.int .i64 v, .int .i64 m, .bool so] (.int .i64 ((bif so then v ||| m else wout v m : Nat) : Int)) w := by
 have h1 := b_or v m (by omega) (by omega)
 have h2 := b_andn v m (by omega) (by omega)
 cases so
 all_goals
  go_enter func258, ntmps258
  go_wp2_with fail
  go_ret
  exact ⟨rfl, rfl⟩
def xmixD (a v m : Nat) : Nat := wout a m ||| (v &&& m)
theorem x_mixed (a v m : Nat) (ha : a < 4294967296) (hv : v < 4294967296) (hm : m < 4294967296) (w : World) :
 CS 259 #[.int .i64 a, .int .i64 v, .int .i64 m] (.int .i64 (xmixD a v m : Nat)) w := by
 have h1 := b_andn a m (by omega) (by omega)
 have h2 := b_and v m (by omega) (by omega)
 have h3 := b_or (wout a m) (v &&& m) (Nat.lt_of_le_of_lt (wout_le _ _) (by omega)) (Nat.lt_of_le_of_lt Nat.and_le_left (by omega))
 go_enter func259, ntmps259
 exact zq206
def xregD (op : Int) : Int := if op = 20 then 31 else if op = 21 then 32 else if op = 22 then 33 else if op = 23 then 36 else if op = 24 then 37 else if op = 25 then 30 else if op = 26 then 34 else if op = 27 then 35 else 28
theorem x_registerForm (op : Int) (w : World) :
 CS 265 #[.int .i64 op] (.int .i64 (xregD op)) w := by
 obtain ⟨T, hT⟩ := zn1 (xregD op)
 rw [<- hT]
 unfold xregD at hT
 have HT := hide1 hT
 clear hT
 go_enter func265, ntmps265
 exact zq207
theorem shr_min (v : Int) (n : Nat) (h : n < 32) : v / 2 ^ min n 64 = v / ((2 ^ n : Nat) : Int) := by rw [Nat.min_eq_left (by omega)]; simp
theorem and31 (b : Nat) : bits .and .i64 (b : Int) 31 = ((b % 32 : Nat) : Int) := by
 have := and_mask (b : Int) 5 (by decide)
 have e : ((2 : Int) ^ 5) = 32 := by decide
 have e2 : ((2 ^ 5 - 1 : Nat) : Int) = 31 := by decide
 exact zq208
theorem wordN_nat (n : Nat) : wordN (n : Int) = n % 4294967296 := by unfold wordN; omega
theorem wordN_of (n : Nat) (h : n < 4294967296) : wordN (n : Int) = n := by unfold wordN; omega
theorem wordN_wrap (z : Int) : wordN (wrap64 z) = wordN z := by unfold wordN wrap64; omega
def xquoD (a b : Int) : Int := if b = 0 then 4294967295 else wrap64 (a.tdiv b)
def xremD (a b : Int) : Int := if b = 0 then a else a.tmod b
theorem x_quotient (a b : Int) (w : World) :
 CS 337 #[.int .i64 a, .int .i64 b] (.int .i64 (xquoD a b)) w := by
 by_cases h : b = 0
 . subst h
   go_enter func337, ntmps337
   go_wp2_with fail
   go_ret
   exact ⟨ret_intE (by simp [xquoD]), rfl⟩
 . have q : (b == 0) = false := by simp [h]
   have HQ : Hid (xquoD a b = wrap64 (a.tdiv b)) := by show _ = _; simp [xquoD, h]
   go_enter func337, ntmps337
   exact zq209
theorem x_remainder (a b : Int) (w : World) :
 CS 338 #[.int .i64 a, .int .i64 b] (.int .i64 (xremD a b)) w := by
 by_cases h : b = 0
 . subst h
   go_enter func338, ntmps338
   go_wp2_with fail
   go_ret
   exact ⟨ret_intE (by simp [xremD]), rfl⟩
 . have q : (b == 0) = false := by simp [h]
   have HQ : Hid (xremD a b = a.tmod b) := by show _ = _; simp [xremD, h]
   go_enter func338, ntmps338
   exact zq209
theorem mul_bdX {x y X Y : Int} (h1 : -X <= x) (h2 : x <= X) (h3 : -Y <= y) (h4 : y <= Y) (hX : 0 <= X) (_hY : 0 <= Y) : -(X * Y) <= x * y /\ x * y <= X * Y := by
 have a1 : 0 <= (X - x) * (Y + y) := zq7
 have a2 : 0 <= (X + x) * (Y - y) := zq7
 have a3 : 0 <= (X - x) * (Y - y) := zq7
 have a4 : 0 <= (X + x) * (Y + y) := zq7
 have e1 : (X - x) * (Y + y) = X * Y + X * y - x * Y - x * y := by rw [Int.sub_mul, Int.mul_add, Int.mul_add]; omega
 have e2 : (X + x) * (Y - y) = X * Y - X * y + x * Y - x * y := by rw [Int.add_mul, Int.mul_sub, Int.mul_sub]; omega
 have e3 : (X - x) * (Y - y) = X * Y - X * y - x * Y + x * y := by rw [Int.sub_mul, Int.mul_sub, Int.mul_sub]; omega
 have e4 : (X + x) * (Y + y) = X * Y + X * y + x * Y + x * y := by rw [Int.add_mul, Int.mul_add, Int.mul_add]; omega
 omega
theorem and65535 (a : Int) : bits .and .i64 a 65535 = a % 65536 := and_mask a 16 (by decide)
theorem x_highWord (a b : Int) (h0 : -2147483648 <= a) (h1 : a < 4294967296) (h2 : -2147483648 <= b) (h3 : b < 4294967296) (w : World) :
 CS 336 #[.int .i64 a, .int .i64 b] (.int .i64 (wordN (a * b / 4294967296))) w := by
 have q1 := and65535 a
 obtain ⟨l, hl⟩ := zn1 (a % 65536)
 obtain ⟨h, hh⟩ := zn1 (a / 65536)
 have ea : a = h * 65536 + l := by omega
 have bl : 0 <= l /\ l <= 65535 := by omega
 have bh : -32768 <= h /\ h <= 65535 := by omega
 obtain ⟨p, hp⟩ := zn1 (h * b)
 obtain ⟨q, hq⟩ := zn1 (l * b)
 have bp := mul_bdX (x := h) (y := b) (X := 65536) (Y := 4294967296) (by omega) (by omega) (by omega) (by omega) (by omega) (by omega)
 have bq := mul_bdX (x := l) (y := b) (X := 65536) (Y := 4294967296) (by omega) (by omega) (by omega) (by omega) (by omega) (by omega)
 have eab : a * b = p * 65536 + q := by rw [ea, Int.add_mul, hp, hq, Int.mul_assoc, Int.mul_comm 65536 b, <- Int.mul_assoc]
 rw [<- hp] at bp
 rw [<- hq] at bq
 rw [<- hl] at q1
 have R : Hid (wordN (a * b / 4294967296) = wordN ((p + q / 65536) / 65536)) := by
  show _ = _
  rw [eab]; congr 1; omega
 have P1 : wrap64 (a / 65536 * b) = p := by rw [<- hh, <- hp]; unfold wrap64; omega
 have P2 : wrap64 (l * b) = q := by rw [<- hq]; unfold wrap64; omega
 have P3 : wrap64 (p + q / 65536) = p + q / 65536 := by unfold wrap64; omega
 have b1 := bp.1; have b2 := bp.2; have b3 := bq.1; have b4 := bq.2
 clear bp bq eab ea hh hp hq hl bl bh
 go_enter func336, ntmps336
 go_wp2_with (first | (go_at_call 135; refine (x_word _ _).mono ?_; rintro e w' ⟨rfl, rfl⟩))
 go_ret
 exact ⟨ret_intE (by rw [R.out] <;> rfl), rfl⟩
theorem u_add (a b : Nat) : (wordN ((a : Int) + b) : Int) = alu_add a b := by unfold alu_add wordN; omega
theorem u_sub (a b : Nat) : (wordN ((a : Int) - b) : Int) = alu_sub a b := rfl
theorem u_bool (p : Prop) [Decidable p] : (((decide p).toNat : Nat) : Int) = ((if p then 1 else 0 : Nat) : Int) := by by_cases h : p <;> simp [h]
theorem u_sll (a b r : Nat) (hr : r = b % 32) : (wordN ((a : Int) * 2 ^ r) : Int) = alu_sll a b := by
 have e : (a : Int) * 2 ^ r = ((a * 2 ^ r : Nat) : Int) := by simp
 rw [e, wordN_nat, hr]; rfl
theorem u_mul (a b : Nat) (ha : a < 4294967296) (hb : b < 4294967296) : (wordN (sgn a * sgn b) : Int) = alu_mul a b := by
 have e1 : ∃ i, sgn a = a - i * 4294967296 := by
  unfold sgn; split
  . exact ⟨1, by omega⟩
  . exact ⟨0, by omega⟩
 have e2 : ∃ i, sgn b = b - i * 4294967296 := by
  unfold sgn; split
  . exact ⟨1, by omega⟩
  . exact ⟨0, by omega⟩
 obtain ⟨i, h1⟩ := e1
 obtain ⟨j, h2⟩ := e2
 have e : sgn a * sgn b = ((a * b : Nat) : Int) + (-(a * j) - i * b + i * j * 4294967296) * 4294967296 := by
  rw [h1, h2, Int.natCast_mul]
  generalize (a : Int) = x
  generalize (b : Int) = y
  have : (x - i * 4294967296) * (y - j * 4294967296) = x * y - x * j * 4294967296 - i * y * 4294967296 + i * j * 4294967296 * 4294967296 := by
   rw [Int.sub_mul, Int.mul_sub, Int.mul_sub, <- Int.mul_assoc x j, Int.mul_right_comm i 4294967296 y, <- Int.mul_assoc (i * 4294967296) j, Int.mul_right_comm i 4294967296 j]; omega
  rw [this, Int.add_mul, Int.sub_mul, Int.neg_mul]; omega
 rw [e]
 unfold wordN alu_mul
 rw [Int.add_mul_emod_self_right]
 omega
theorem u_mulhu (a b : Nat) (ha : a < 4294967296) (hb : b < 4294967296) : (wordN ((a : Int) * b / 4294967296) : Int) = alu_mulhu a b := by
 have h : a * b <= 4294967295 * 4294967295 := Nat.mul_le_mul (by omega) (by omega)
 have e : (a : Int) * b = ((a * b : Nat) : Int) := by simp
 rw [e]; unfold wordN alu_mulhu
 generalize a * b = z at *
 omega
theorem u_div (a b : Nat) (_ha : a < 4294967296) (hb : b < 4294967296) : (wordN (xquoD (sgn a) (sgn b)) : Int) = alu_div a b := by
 unfold xquoD alu_div
 have := sgn_zero b hb
 by_cases h : b = 0
 . rw [if_pos (this.2 h), if_pos h]; rfl
 . rw [if_neg (fun e => h (this.1 e)), if_neg h, wordN_wrap]
theorem u_divu (a b : Nat) (ha : a < 4294967296) (_hb : b < 4294967296) : (wordN (xquoD a b) : Int) = alu_divu a b := by
 unfold xquoD alu_divu
 by_cases h : b = 0
 . subst h; rfl
 . rw [if_neg (by omega), if_neg h, wordN_wrap, ndiv, wordN_of]
   exact Nat.lt_of_le_of_lt (Nat.div_le_self _ _) ha
theorem u_rem (a b : Nat) (ha : a < 4294967296) (hb : b < 4294967296) : (wordN (xremD (sgn a) (sgn b)) : Int) = alu_rem a b := by
 unfold xremD alu_rem
 have := sgn_zero b hb
 by_cases h : b = 0
 . rw [if_pos (this.2 h), if_pos h]; unfold wordN sgn; split <;> omega
 . rw [if_neg (fun e => h (this.1 e)), if_neg h]
   congr 2
   have := Int.tmod_add_tdiv_mul (sgn a) (sgn b)
   omega
theorem u_remu (a b : Nat) (_ha : a < 4294967296) (_hb : b < 4294967296) : xremD a b = alu_remu a b := by
 unfold xremD alu_remu
 by_cases h : b = 0
 . subst h; rfl
 . rw [if_neg (by omega), if_neg h, Int.tmod_eq_emod_of_nonneg (by omega)]; simp
theorem x_reckon_add (a b : Nat) (ha : a < 4294967296) (hb : b < 4294967296) (w : World) :
 CS 264 #[.int .i64 28, .int .i64 a, .int .i64 b] (.int .i64 (alu_add a b)) w := zq210
theorem x_reckon_sub (a b : Nat) (ha : a < 4294967296) (hb : b < 4294967296) (w : World) :
 CS 264 #[.int .i64 29, .int .i64 a, .int .i64 b] (.int .i64 (alu_sub a b)) w := zq210
theorem x_reckon_sll (a b : Nat) (ha : a < 4294967296) (hb : b < 4294967296) (w : World) :
 CS 264 #[.int .i64 30, .int .i64 a, .int .i64 b] (.int .i64 (alu_sll a b)) w := by
 have hA := and31 b
 have hr : b % 32 < 32 := by omega
 obtain ⟨r, hr2⟩ := zn1 (b % 32)
 rw [<- hr2] at hA hr
 have HR := hide1 hr2
 clear hr2
 exact zq210
theorem x_reckon_slt (a b : Nat) (ha : a < 4294967296) (hb : b < 4294967296) (w : World) :
 CS 264 #[.int .i64 31, .int .i64 a, .int .i64 b] (.int .i64 (alu_slt a b)) w := zq210
theorem x_reckon_sltu (a b : Nat) (ha : a < 4294967296) (hb : b < 4294967296) (w : World) :
 CS 264 #[.int .i64 32, .int .i64 a, .int .i64 b] (.int .i64 (alu_sltu a b)) w := zq210
theorem x_reckon_xor (a b : Nat) (ha : a < 4294967296) (hb : b < 4294967296) (w : World) :
 CS 264 #[.int .i64 33, .int .i64 a, .int .i64 b] (.int .i64 (alu_xor a b)) w := by
 have hX := b_xor a b (by omega) (by omega)
 exact zq210
theorem x_reckon_srl (a b : Nat) (ha : a < 4294967296) (hb : b < 4294967296) (w : World) :
 CS 264 #[.int .i64 34, .int .i64 a, .int .i64 b] (.int .i64 (alu_srl a b)) w := by
 have hA := and31 b
 have hr : b % 32 < 32 := by omega
 obtain ⟨r, hr2⟩ := zn1 (b % 32)
 rw [<- hr2] at hA hr
 have HR := hide1 hr2
 clear hr2
 have hS := shr_min (a : Int) r hr
 exact zq210
theorem x_reckon_sra (a b : Nat) (ha : a < 4294967296) (hb : b < 4294967296) (w : World) :
 CS 264 #[.int .i64 35, .int .i64 a, .int .i64 b] (.int .i64 (alu_sra a b)) w := by
 have hA := and31 b
 have hr : b % 32 < 32 := by omega
 obtain ⟨r, hr2⟩ := zn1 (b % 32)
 rw [<- hr2] at hA hr
 have HR := hide1 hr2
 clear hr2
 have hS := shr_min (sgn a) r hr
 exact zq210
theorem x_reckon_or (a b : Nat) (ha : a < 4294967296) (hb : b < 4294967296) (w : World) :
 CS 264 #[.int .i64 36, .int .i64 a, .int .i64 b] (.int .i64 (alu_or a b)) w := by
 have hX := b_or a b (by omega) (by omega)
 exact zq210
theorem x_reckon_and (a b : Nat) (ha : a < 4294967296) (hb : b < 4294967296) (w : World) :
 CS 264 #[.int .i64 37, .int .i64 a, .int .i64 b] (.int .i64 (alu_and a b)) w := by
 have hX := b_and a b (by omega) (by omega)
 exact zq210
theorem x_multiply_mul (a b : Nat) (ha : a < 4294967296) (hb : b < 4294967296) (w : World) :
 CS 266 #[.int .i64 42, .int .i64 a, .int .i64 b] (.int .i64 (alu_mul a b)) w := zq211
theorem x_multiply_mulh (a b : Nat) (ha : a < 4294967296) (hb : b < 4294967296) (w : World) :
 CS 266 #[.int .i64 43, .int .i64 a, .int .i64 b] (.int .i64 (alu_mulh a b)) w := zq211
theorem x_multiply_mulhsu (a b : Nat) (ha : a < 4294967296) (hb : b < 4294967296) (w : World) :
 CS 266 #[.int .i64 44, .int .i64 a, .int .i64 b] (.int .i64 (alu_mulhsu a b)) w := zq211
theorem x_multiply_mulhu (a b : Nat) (ha : a < 4294967296) (hb : b < 4294967296) (w : World) :
 CS 266 #[.int .i64 45, .int .i64 a, .int .i64 b] (.int .i64 (alu_mulhu a b)) w := zq212
theorem x_multiply_div (a b : Nat) (ha : a < 4294967296) (hb : b < 4294967296) (w : World) :
 CS 266 #[.int .i64 46, .int .i64 a, .int .i64 b] (.int .i64 (alu_div a b)) w := zq212
theorem x_multiply_divu (a b : Nat) (ha : a < 4294967296) (hb : b < 4294967296) (w : World) :
 CS 266 #[.int .i64 47, .int .i64 a, .int .i64 b] (.int .i64 (alu_divu a b)) w := zq212
theorem x_multiply_rem (a b : Nat) (ha : a < 4294967296) (hb : b < 4294967296) (w : World) :
 CS 266 #[.int .i64 48, .int .i64 a, .int .i64 b] (.int .i64 (alu_rem a b)) w := zq212
theorem x_multiply_remu (a b : Nat) (ha : a < 4294967296) (hb : b < 4294967296) (w : World) :
 CS 266 #[.int .i64 49, .int .i64 a, .int .i64 b] (.int .i64 (alu_remu a b)) w := zq212
theorem x_reckon (op : Int) (h0 : 28 <= op) (h1 : op <= 37) (a b : Nat) (ha : a < 4294967296) (hb : b < 4294967296) (w : World) :
 CS 264 #[.int .i64 op, .int .i64 a, .int .i64 b] (.int .i64 (alu op a b)) w := by
 have h : op = 28 \/ op = 29 \/ op = 30 \/ op = 31 \/ op = 32 \/ op = 33 \/ op = 34 \/ op = 35 \/ op = 36 \/ op = 37 := by omega
 rcases h with rfl | rfl | rfl | rfl | rfl | rfl | rfl | rfl | rfl | rfl
 . exact x_reckon_add a b ha hb w
 . exact x_reckon_sub a b ha hb w
 . exact x_reckon_sll a b ha hb w
 . exact x_reckon_slt a b ha hb w
 . exact x_reckon_sltu a b ha hb w
 . exact x_reckon_xor a b ha hb w
 . exact x_reckon_srl a b ha hb w
 . exact x_reckon_sra a b ha hb w
 . exact x_reckon_or a b ha hb w
 . exact x_reckon_and a b ha hb w
theorem x_multiply (op : Int) (h0 : 42 <= op) (h1 : op <= 49) (a b : Nat) (ha : a < 4294967296) (hb : b < 4294967296) (w : World) :
 CS 266 #[.int .i64 op, .int .i64 a, .int .i64 b] (.int .i64 (alu op a b)) w := by
 have h : op = 42 \/ op = 43 \/ op = 44 \/ op = 45 \/ op = 46 \/ op = 47 \/ op = 48 \/ op = 49 := by omega
 rcases h with rfl | rfl | rfl | rfl | rfl | rfl | rfl | rfl
 . exact x_multiply_mul a b ha hb w
 . exact x_multiply_mulh a b ha hb w
 . exact x_multiply_mulhsu a b ha hb w
 . exact x_multiply_mulhu a b ha hb w
 . exact x_multiply_div a b ha hb w
 . exact x_multiply_divu a b ha hb w
 . exact x_multiply_rem a b ha hb w
 . exact x_multiply_remu a b ha hb w
theorem alu_regD (op : Int) (h0 : 19 <= op) (h1 : op <= 27) (a b : Nat) : alu (xregD op) a b = alu op a b /\ 28 <= xregD op /\ xregD op <= 37 := by
 have h : op = 19 \/ op = 20 \/ op = 21 \/ op = 22 \/ op = 23 \/ op = 24 \/ op = 25 \/ op = 26 \/ op = 27 := by omega
 rcases h with rfl | rfl | rfl | rfl | rfl | rfl | rfl | rfl | rfl <;> exact ⟨rfl, by decide, by decide⟩
def xaccD (op : Int) : Int := if op = 11 \/ op = 14 \/ op = 16 then 1 else if op = 12 \/ op = 15 \/ op = 17 then 2 else 4
theorem x_accessSize (op : Int) (w : World) :
 CS 268 #[.int .i64 op] (.int .i64 (xaccD op)) w := by
 obtain ⟨T, hT⟩ := zn1 (xaccD op)
 rw [<- hT]
 unfold xaccD at hT
 have HT := hide1 hT
 clear hT
 go_enter func268, ntmps268
 exact zq207
def xapuD (op : Int) : Int := if op = 50 then 1 else 2
theorem x_atomicPurpose (op : Int) (w : World) :
 CS 272 #[.int .i64 op] (.int .i64 (xapuD op)) w := by
 obtain ⟨T, hT⟩ := zn1 (xapuD op)
 rw [<- hT]
 unfold xapuD at hT
 have HT := hide1 hT
 clear hT
 go_enter func272, ntmps272
 exact zq207
def xalgD (k : Int) : Int := if k = 1 then 4 else 6
theorem x_alignFault (k : Int) (w : World) :
 CS 273 #[.int .i64 k] (.int .i64 (xalgD k)) w := by
 obtain ⟨T, hT⟩ := zn1 (xalgD k)
 rw [<- hT]
 unfold xalgD at hT
 have HT := hide1 hT
 clear hT
 go_enter func273, ntmps273
 exact zq207
def xfauD (fault kind : Int) : Int := if kind = 0 then (if fault = 1 then 12 else 1) else if kind = 1 then (if fault = 1 then 13 else 5) else (if fault = 1 then 15 else 7)
theorem x_faultCause (f k : Int) (w : World) :
 CS 274 #[.int .i64 f, .int .i64 k] (.int .i64 (xfauD f k)) w := by
 obtain ⟨T, hT⟩ := zn1 (xfauD f k)
 rw [<- hT]
 unfold xfauD at hT
 have HT := hide1 hT
 clear hT
 go_enter func274, ntmps274
 go_wp2_with (go_at_call 347; refine (x_choose _ _ _ _).mono ?_; rintro e w' ⟨rfl, rfl⟩)
 all_goals (go_ret; refine ⟨ret_intE ?_, rfl⟩; rw [HT.out]; simp_all <;> try (by_cases hf : f = 1 <;> simp [hf]))
theorem x_isTimer (a n : Int) (ha0 : -1099511627776 <= a) (ha1 : a <= 1099511627776) (w : World) :
 CS 340 #[.int .i64 a, .int .i64 n] (.bool (decide (n = 4 /\ (a = 33554432 \/ a = 33570816 \/ a = 33570820 \/ a = 33603576 \/ a = 33603580)))) w := by
 obtain ⟨T, hT⟩ := zn1 (decide (n = 4 /\ (a = 33554432 \/ a = 33570816 \/ a = 33570820 \/ a = 33603576 \/ a = 33603580)))
 rw [<- hT]
 have HT := hide1 hT
 clear hT
 go_enter func340, ntmps340
 exact zq213
theorem x_isPort (a n : Int) (ha0 : -1099511627776 <= a) (ha1 : a <= 1099511627776) (w : World) :
 CS 342 #[.int .i64 a, .int .i64 n] (.bool (decide (n = 1 /\ (a = 268435456 \/ a = 268435457 \/ a = 268435458 \/ a = 268435461 \/ a = 268435463)))) w := by
 obtain ⟨T, hT⟩ := zn1 (decide (n = 1 /\ (a = 268435456 \/ a = 268435457 \/ a = 268435458 \/ a = 268435461 \/ a = 268435463)))
 rw [<- hT]
 have HT := hide1 hT
 clear hT
 go_enter func342, ntmps342
 exact zq213
theorem x_pageAddress (e : Nat) (he : e < 4294967296) (w : World) :
 CS 335 #[.int .i64 e] (.int .i64 ((e / 1024 * 4096 : Nat) : Int)) w := by
 go_enter func335, ntmps335
 go_wp2_with fail
 go_ret
 exact ⟨ret_intE (by simp), rfl⟩
theorem x_isBranch (op : Int) (w : World) :
 CS 192 #[.int .i64 op] (.bool (decide (5 <= op /\ op <= 10))) w := by
 obtain ⟨T, hT⟩ := zn1 (decide (5 <= op /\ op <= 10))
 rw [<- hT]
 have HT := hide1 hT
 clear hT
 go_enter func192, ntmps192
 exact zq213
def xresD (op : Int) : Bool := decide ((1 <= op /\ op <= 4) \/ (19 <= op /\ op <= 37) \/ (42 <= op /\ op <= 49))
theorem x_hasResult (op : Int) (w : World) :
 CS 195 #[.int .i64 op] (.bool (xresD op)) w := by
 obtain ⟨T, hT⟩ := zn1 (xresD op)
 rw [<- hT]
 unfold xresD at hT
 have HT := hide1 hT
 clear hT
 go_enter func195, ntmps195
 exact zq213
def xforD (op : Int) : Int := if op = 68 then 4194304 else if op = 69 then 2097152 else 1048576
theorem x_forbidding (op : Int) (w : World) :
 CS 281 #[.int .i64 op] (.int .i64 (xforD op)) w := by
 obtain ⟨T, hT⟩ := zn1 (xforD op)
 rw [<- hT]
 unfold xforD at hT
 have HT := hide1 hT
 clear hT
 go_enter func281, ntmps281
 exact zq207
def xchgD (op : Int) (was v : Nat) : Nat := if op = 62 \/ op = 65 then was ||| v else if op = 63 \/ op = 66 then wout was v else v
theorem x_changed (op : Int) (was v : Nat) (h1 : was < 4294967296) (h2 : v < 4294967296) (w : World) :
 CS 280 #[.int .i64 op, .int .i64 was, .int .i64 v] (.int .i64 (xchgD op was v)) w := by
 obtain ⟨T, hT⟩ := zn1 (xchgD op was v)
 rw [<- hT]
 unfold xchgD at hT
 have HT := hide1 hT
 clear hT
 have q1 := b_or was v (by omega) (by omega)
 have q2 := b_andn was v (by omega) (by omega)
 go_enter func280, ntmps280
 exact zq207
theorem ne0 (n : Nat) : ((n : Int) != 0) = !decide (n = 0) := by by_cases h : n = 0 <;> simp [h]
def xsetD (v m : Nat) (so : Bool) : Nat := bif so then v ||| m else wout v m
theorem xsetD_lt (v m : Nat) (so : Bool) (hv : v < 4294967296) (hm : m < 4294967296) : xsetD v m so < 4294967296 := by
 cases so
 . exact Nat.lt_of_le_of_lt (wout_le _ _) hv
 . exact nat_or_lt v m 32 hv hm
def xstrD (s mode : Nat) : Nat := wout (xsetD (xsetD s 32 (!decide (s &&& 2 = 0))) 256 (decide (mode = 1))) 2
theorem x_superTrapped (s mode : Nat) (hs : s < 4294967296) (w : World) :
 CS 188 #[.int .i64 s, .int .i64 mode] (.int .i64 (xstrD s mode)) w := by
 have q1 : bits .and .i64 (s : Int) 2 = ((s &&& 2 : Nat) : Int) := b_and s 2 (by omega) (by omega)
 have q2 := ne0 (s &&& 2)
 obtain ⟨b, hb⟩ := zn1 (!decide (s &&& 2 = 0))
 rw [<- q1, <- hb] at q2
 obtain ⟨s1, h1⟩ := zn1 (xsetD s 32 b)
 have l1 : s1 < 4294967296 := zq8
 have S1 : Hid (CS 258 #[.int .i64 s, .int .i64 32, .bool b] (.int .i64 (s1 : Int)) w) := by rw [h1]; exact hide1 (x_setIf s 32 b hs (by omega) w)
 obtain ⟨c, hc⟩ := zn1 (decide (mode = 1))
 have q3 : ((mode : Int) == 1) = c := by rw [hc]; by_cases h : mode = 1 <;> simp [h]; omega
 obtain ⟨s2, h2⟩ := zn1 (xsetD s1 256 c)
 have l2 : s2 < 4294967296 := by rw [h2]; exact xsetD_lt _ _ _ l1 (by omega)
 have S2 : Hid (CS 258 #[.int .i64 s1, .int .i64 256, .bool c] (.int .i64 (s2 : Int)) w) := by rw [h2]; exact hide1 (x_setIf s1 256 c l1 (by omega) w)
 have q4 : bits .andNot .i64 (s2 : Int) 2 = ((wout s2 2 : Nat) : Int) := b_andn s2 2 (by omega) (by omega)
 have R : xstrD s mode = wout s2 2 := by unfold xstrD; rw [<- hb, <- hc, <- h1, <- h2]
 rw [R]
 clear R hb hc h1 h2 q1
 go_enter func188, ntmps188
 exact zq214
def xmtrD (s mode : Nat) : Nat := wout (xmixD (xsetD s 128 (!decide (s &&& 8 = 0))) (mode * 2048) 6144) 8
theorem xmixD_lt (a v m : Nat) (ha : a < 4294967296) (hm : m < 4294967296) : xmixD a v m < 4294967296 := nat_or_lt _ _ 32 (Nat.lt_of_le_of_lt (wout_le _ _) ha) (Nat.lt_of_le_of_lt Nat.and_le_right hm)
theorem x_machTrapped (s mode : Nat) (hs : s < 4294967296) (hm : mode < 4) (w : World) :
 CS 190 #[.int .i64 s, .int .i64 mode] (.int .i64 (xmtrD s mode)) w := by
 have q1 : bits .and .i64 (s : Int) 8 = ((s &&& 8 : Nat) : Int) := b_and s 8 (by omega) (by omega)
 have q2 := ne0 (s &&& 8)
 obtain ⟨b, hb⟩ := zn1 (!decide (s &&& 8 = 0))
 rw [<- q1, <- hb] at q2
 obtain ⟨s1, h1⟩ := zn1 (xsetD s 128 b)
 have l1 : s1 < 4294967296 := zq8
 have S1 : Hid (CS 258 #[.int .i64 s, .int .i64 128, .bool b] (.int .i64 (s1 : Int)) w) := by rw [h1]; exact hide1 (x_setIf s 128 b hs (by omega) w)
 obtain ⟨m, hm2⟩ := zn1 (mode * 2048)
 have q3 : (mode : Int) * 2048 = (m : Int) := by omega
 obtain ⟨s2, h2⟩ := zn1 (xmixD s1 m 6144)
 have l2 : s2 < 4294967296 := by rw [h2]; exact xmixD_lt _ _ _ l1 (by omega)
 have S2 : Hid (CS 259 #[.int .i64 s1, .int .i64 m, .int .i64 6144] (.int .i64 (s2 : Int)) w) := by rw [h2]; exact hide1 (x_mixed s1 m 6144 l1 (by omega) (by omega) w)
 have q4 : bits .andNot .i64 (s2 : Int) 8 = ((wout s2 8 : Nat) : Int) := b_andn s2 8 (by omega) (by omega)
 have R : xmtrD s mode = wout s2 8 := by unfold xmtrD; rw [<- hb, <- hm2, <- h1, <- h2]
 rw [R]
 clear R hb h1 h2 q1 hm2
 go_enter func190, ntmps190
 exact zq214
def xsretD (s : Nat) : Nat := wout (xsetD s 2 (!decide (s &&& 32 = 0))) 131328 ||| 32
theorem x_superReturned (s : Nat) (hs : s < 4294967296) (w : World) :
 CS 283 #[.int .i64 s] (.int .i64 (xsretD s)) w := by
 have q1 : bits .and .i64 (s : Int) 32 = ((s &&& 32 : Nat) : Int) := b_and s 32 (by omega) (by omega)
 have q2 := ne0 (s &&& 32)
 obtain ⟨b, hb⟩ := zn1 (!decide (s &&& 32 = 0))
 rw [<- q1, <- hb] at q2
 obtain ⟨s1, h1⟩ := zn1 (xsetD s 2 b)
 have l1 : s1 < 4294967296 := zq8
 have S1 : Hid (CS 258 #[.int .i64 s, .int .i64 2, .bool b] (.int .i64 (s1 : Int)) w) := by rw [h1]; exact hide1 (x_setIf s 2 b hs (by omega) w)
 have q4 : bits .andNot .i64 (s1 : Int) 131328 = ((wout s1 131328 : Nat) : Int) := b_andn s1 131328 (by omega) (by omega)
 have q5 : bits .or .i64 ((wout s1 131328 : Nat) : Int) 32 = ((wout s1 131328 ||| 32 : Nat) : Int) := b_or (wout s1 131328) 32 (Nat.lt_of_le_of_lt (wout_le _ _) (by omega)) (by omega)
 have R : xsretD s = wout s1 131328 ||| 32 := by unfold xsretD; rw [<- hb, <- h1]
 rw [R]
 clear R hb h1 q1
 go_enter func283, ntmps283
 exact zq215
def xmretA (s : Nat) : Nat := if s &&& 6144 = 6144 then s else wout s 131072
def xmretD (s : Nat) : Nat := wout (xsetD (xmretA s) 8 (!decide (xmretA s &&& 128 = 0))) 6144 ||| 128
theorem x_machReturned (s : Nat) (hs : s < 4294967296) (w : World) :
 CS 282 #[.int .i64 s] (.int .i64 (xmretD s)) w := by
 have p1 : bits .and .i64 (s : Int) 6144 = ((s &&& 6144 : Nat) : Int) := b_and s 6144 (by omega) (by omega)
 have p2 : bits .andNot .i64 (s : Int) 131072 = ((wout s 131072 : Nat) : Int) := b_andn s 131072 (by omega) (by omega)
 have hmA : xmretA s < 4294967296 := by
  unfold xmretA; split
  . exact hs
  . exact Nat.lt_of_le_of_lt (wout_le _ _) hs
 unfold xmretD
 obtain ⟨t, ht⟩ := zn1 (xmretA s)
 rw [<- ht] at hmA |-
 have q1 : bits .and .i64 (t : Int) 128 = ((t &&& 128 : Nat) : Int) := b_and t 128 (by omega) (by omega)
 have q2 := ne0 (t &&& 128)
 obtain ⟨b, hb⟩ := zn1 (!decide (t &&& 128 = 0))
 rw [<- q1, <- hb] at q2
 obtain ⟨s1, h1⟩ := zn1 (xsetD t 8 b)
 have l1 : s1 < 4294967296 := by rw [h1]; exact xsetD_lt _ _ _ hmA (by omega)
 have S1 : Hid (CS 258 #[.int .i64 t, .int .i64 8, .bool b] (.int .i64 (s1 : Int)) w) := by rw [h1]; exact hide1 (x_setIf t 8 b hmA (by omega) w)
 have q4 : bits .andNot .i64 (s1 : Int) 6144 = ((wout s1 6144 : Nat) : Int) := b_andn s1 6144 (by omega) (by omega)
 have q5 : bits .or .i64 ((wout s1 6144 : Nat) : Int) 128 = ((wout s1 6144 ||| 128 : Nat) : Int) := b_or (wout s1 6144) 128 (Nat.lt_of_le_of_lt (wout_le _ _) (by omega)) (by omega)
 rw [<- hb, <- h1]
 clear hb h1 q1
 unfold xmretA at ht
 by_cases h : s &&& 6144 = 6144
 . rw [if_pos h] at ht
   subst ht
   rw [h] at p1
   have p1' : bits .and .i64 (t : Int) 6144 = 6144 := p1
   clear p1 h
   exact zq216
 . rw [if_neg h] at ht
   have p3 : (bits .and .i64 (s : Int) 6144 != 6144) = true := by rw [p1]; simp; omega
   rw [<- ht] at p2
   clear p1 h ht
   exact zq216
def xstwD (s v : Nat) : Nat := if v &&& 6144 = 4096 then xmixD s v 8257962 else v &&& 8264106
theorem x_statusWritten (s v : Nat) (hs : s < 4294967296) (hv : v < 4294967296) (w : World) :
 CS 380 #[.int .i64 s, .int .i64 v] (.int .i64 (xstwD s v)) w := by
 have p1 : bits .and .i64 (v : Int) 6144 = ((v &&& 6144 : Nat) : Int) := b_and v 6144 (by omega) (by omega)
 have p2 : bits .and .i64 (v : Int) 8264106 = ((v &&& 8264106 : Nat) : Int) := b_and v 8264106 (by omega) (by omega)
 obtain ⟨T, hT⟩ := zn1 (xstwD s v)
 rw [<- hT]
 unfold xstwD at hT
 by_cases h : v &&& 6144 = 4096
 . rw [if_pos h] at hT
   rw [h] at p1
   have p1' : bits .and .i64 (v : Int) 6144 = 4096 := p1
   clear p1 h
   have S1 : Hid (CS 259 #[.int .i64 s, .int .i64 v, .int .i64 8257962] (.int .i64 (T : Int)) w) := by rw [hT]; exact hide1 (x_mixed s v 8257962 hs hv (by omega) w)
   clear hT
   go_enter func380, ntmps380
   exact zq215
 . rw [if_neg h] at hT
   have p3 : (bits .and .i64 (v : Int) 6144 == 4096) = false := by rw [p1]; simp; omega
   rw [<- hT] at p2
   clear p1 h hT
   go_enter func380, ntmps380
   exact zq206
def xmuD (a : Nat) : Int := if xhbD a 11 then 11 else if xhbD a 3 then 3 else if xhbD a 7 then 7 else if xhbD a 9 then 9 else if xhbD a 1 then 1 else if xhbD a 5 then 5 else -1
theorem x_mostUrgent (a : Nat) (ha : a < 4294967296) (w : World) :
 CS 127 #[.int .i64 a] (.int .i64 (xmuD a)) w := by
 have HB : ∀ k : Nat, Hid (CS 187 #[.int .i64 a, .int .i64 k] (.bool (xhbD a k)) w) := fun k => hide1 (x_hasBit a k ha w)
 have H11 : Hid (CS 187 #[.int .i64 a, .int .i64 11] (.bool (xhbD a 11)) w) := HB 11
 have H3 : Hid (CS 187 #[.int .i64 a, .int .i64 3] (.bool (xhbD a 3)) w) := HB 3
 have H7 : Hid (CS 187 #[.int .i64 a, .int .i64 7] (.bool (xhbD a 7)) w) := HB 7
 have H9 : Hid (CS 187 #[.int .i64 a, .int .i64 9] (.bool (xhbD a 9)) w) := HB 9
 have H1 : Hid (CS 187 #[.int .i64 a, .int .i64 1] (.bool (xhbD a 1)) w) := HB 1
 have H5 : Hid (CS 187 #[.int .i64 a, .int .i64 5] (.bool (xhbD a 5)) w) := HB 5
 unfold xmuD
 obtain ⟨b11, h11⟩ := zn1 (xhbD a 11)
 obtain ⟨b3, h3⟩ := zn1 (xhbD a 3)
 obtain ⟨b7, h7⟩ := zn1 (xhbD a 7)
 obtain ⟨b9, h9⟩ := zn1 (xhbD a 9)
 obtain ⟨b1, h1⟩ := zn1 (xhbD a 1)
 obtain ⟨b5, h5⟩ := zn1 (xhbD a 5)
 rw [<- h11] at H11 |-
 rw [<- h3] at H3 |-
 rw [<- h7] at H7 |-
 rw [<- h9] at H9 |-
 rw [<- h1] at H1 |-
 rw [<- h5] at H5 |-
 clear h11 h3 h7 h9 h1 h5 HB
 cases b11
 case true =>
  go_enter func127, ntmps127
  go_wp2_with fail
  refine H11.out.mono ?_
  exact zq217
 cases b3
 case true =>
  go_enter func127, ntmps127
  go_wp2_with fail
  refine H11.out.mono ?_
  rintro e w1 ⟨rfl, rfl⟩
  go_wp2_with fail
  refine H3.out.mono ?_
  exact zq217
 cases b7
 case true =>
  go_enter func127, ntmps127
  go_wp2_with fail
  refine H11.out.mono ?_
  rintro e w1 ⟨rfl, rfl⟩
  go_wp2_with fail
  refine H3.out.mono ?_
  rintro e w1 ⟨rfl, rfl⟩
  go_wp2_with fail
  refine H7.out.mono ?_
  exact zq217
 cases b9
 case true =>
  go_enter func127, ntmps127
  go_wp2_with fail
  refine H11.out.mono ?_
  rintro e w1 ⟨rfl, rfl⟩
  go_wp2_with fail
  refine H3.out.mono ?_
  rintro e w1 ⟨rfl, rfl⟩
  go_wp2_with fail
  refine H7.out.mono ?_
  rintro e w1 ⟨rfl, rfl⟩
  go_wp2_with fail
  refine H9.out.mono ?_
  exact zq217
 cases b1
 case true =>
  go_enter func127, ntmps127
  go_wp2_with fail
  refine H11.out.mono ?_
  rintro e w1 ⟨rfl, rfl⟩
  go_wp2_with fail
  refine H3.out.mono ?_
  rintro e w1 ⟨rfl, rfl⟩
  go_wp2_with fail
  refine H7.out.mono ?_
  rintro e w1 ⟨rfl, rfl⟩
  go_wp2_with fail
  refine H9.out.mono ?_
  rintro e w1 ⟨rfl, rfl⟩
  go_wp2_with fail
  refine H1.out.mono ?_
  exact zq217
 cases b5
 all_goals
  go_enter func127, ntmps127
  go_wp2_with fail
  refine H11.out.mono ?_
  rintro e w1 ⟨rfl, rfl⟩
  go_wp2_with fail
  refine H3.out.mono ?_
  rintro e w1 ⟨rfl, rfl⟩
  go_wp2_with fail
  refine H7.out.mono ?_
  rintro e w1 ⟨rfl, rfl⟩
  go_wp2_with fail
  refine H9.out.mono ?_
  rintro e w1 ⟨rfl, rfl⟩
  go_wp2_with fail
  refine H1.out.mono ?_
  rintro e w1 ⟨rfl, rfl⟩
  go_wp2_with fail
  refine H5.out.mono ?_
  rintro e w1 ⟨rfl, rfl⟩
  go_wp2_with fail
  go_ret
  exact ⟨rfl, rfl⟩
def xhdlD (tvec cause : Nat) : Nat := if 2147483648 <= cause /\ ¬ tvec &&& 1 = 0 then (wout tvec 3 + 4 * (cause - 2147483648)) % 4294967296 else wout tvec 3
theorem x_handler (t c : Nat) (ht : t < 4294967296) (hc : c < 4294967296) (w : World) :
 CS 189 #[.int .i64 t, .int .i64 c] (.int .i64 (xhdlD t c)) w := by
 have p1 : bits .andNot .i64 (t : Int) 3 = ((wout t 3 : Nat) : Int) := b_andn t 3 (by omega) (by omega)
 have p2 : bits .and .i64 (t : Int) 1 = ((t &&& 1 : Nat) : Int) := b_and t 1 (by omega) (by omega)
 have p3 := ne0 (t &&& 1)
 rw [<- p2] at p3
 have p4 := wout_le t 3
 obtain ⟨T, hT⟩ := zn1 (xhdlD t c)
 rw [<- hT]
 unfold xhdlD at hT
 obtain ⟨u, hu⟩ := zn1 (wout t 3)
 rw [<- hu] at hT p1 p4
 have W1 : Hid (wordN (u : Int) = u) := hide1 (wordN_of u (by omega))
 clear hu
 by_cases h : 2147483648 <= c
 . by_cases h2 : t &&& 1 = 0
   . rw [if_neg (fun h => h.2 h2)] at hT
     have p5 : (bits .and .i64 (t : Int) 1 != 0) = false := by rw [p3, h2]; rfl
     subst hT
     clear p3 h2 p2
     exact zq218
   . rw [if_pos ⟨h, h2⟩] at hT
     have p5 : (bits .and .i64 (t : Int) 1 != 0) = true := by rw [p3]; rw [decide_eq_false h2]; rfl
     have HT := hide1 hT
     clear p3 h2 p2 hT
     go_enter func189, ntmps189
     go_wp2_with (go_at_call 135; refine (x_word _ _).mono ?_; rintro e w' ⟨rfl, rfl⟩)
     go_ret
     exact ⟨ret_intE (by rw [HT.out]; unfold wordN; omega), rfl⟩
 . rw [if_neg (fun h' => h h'.1)] at hT
   subst hT
   have q : decide ((2147483648 : Int) <= c) = false := by simp; omega
   exact zq218
theorem x_isPointer (e : Nat) (he : e < 4294967296) (w : World) :
 CS 376 #[.int .i64 e] (.bool (decide (e &&& 10 = 0))) w := by
 have p2 : bits .and .i64 (e : Int) 10 = ((e &&& 10 : Nat) : Int) := b_and e 10 (by omega) (by omega)
 have p3 : ((((e &&& 10 : Nat)) : Int) == 0) = decide (e &&& 10 = 0) := by by_cases h : e &&& 10 = 0 <;> simp [h]
 obtain ⟨b, hb⟩ := zn1 (decide (e &&& 10 = 0))
 rw [<- p2, <- hb] at p3
 rw [<- hb]
 clear p2 hb
 go_enter func376, ntmps376
 exact zq206
theorem x_modified (op : Int) (h0 : 52 <= op) (h1 : op <= 60) (a b : Nat) (ha : a < 4294967296) (hb : b < 4294967296) (w : World) :
 CS 349 #[.int .i64 op, .int .i64 a, .int .i64 b] (.int .i64 (alu op a b)) w := by
 have q1 := b_xor a b (by omega) (by omega)
 have q2 := b_and a b (by omega) (by omega)
 have q3 := b_or a b (by omega) (by omega)
 have h : op = 52 \/ op = 53 \/ op = 54 \/ op = 55 \/ op = 56 \/ op = 57 \/ op = 58 \/ op = 59 \/ op = 60 := by omega
 have hi : ∀ p : Prop, ∀ _ : Decidable p, (bif decide p then (a : Int) else b) = ((if p then a else b : Nat) : Int) := by
  intro p _; by_cases h : p <;> simp [h]
 have HI := hide1 hi
 clear hi
 rcases h with rfl | rfl | rfl | rfl | rfl | rfl | rfl | rfl | rfl
 all_goals
  go_enter func349, ntmps349
  go_wp2_with (first | (go_at_call 135; refine (x_word _ _).mono ?_; rintro e w' ⟨rfl, rfl⟩) | (go_at_call 263; refine (x_signed _ (by assumption) _).mono ?_; rintro e w' ⟨rfl, rfl⟩) | (go_at_call 347; refine (x_choose _ _ _ _).mono ?_; rintro e w' ⟨rfl, rfl⟩))
  go_ret
  refine ⟨ret_intE ?_, rfl⟩
  try simp only [wordN_wrap]
 . rfl
 . exact u_add a b
 . rfl
 . rfl
 . rfl
 . exact HI.out _ _
 . exact HI.out _ _
 . exact HI.out _ _
 . exact HI.out _ _
end Go.Proofs.YtmlgonbhoknoiabGreatDoor
