import Derived.Test.YthfofjkfbhahoaaGreatDoorYD
import Derived.Test.YthfofjkfbhahoaaGreatDoorXW
import Derived.Test.YthfofjkfbhahoaaGreatDoorYC
import Derived.Test.YthfofjkfbhahoaaGreatDoorXL
section
namespace Go.Proofs.YthfofjkfbhahoaaGreatDoor
open Go.RowKit
set_option linter.unusedSimpArgs false
theorem eql_self (i : Ins) (w : World) : (binOp .eql 53 (.agg #[.int .i64 i.op, .int .i64 i.rd, .int .i64 i.rs1, .int .i64 i.rs2, .int .i64 i.im, .int .i64 i.ln]) (.agg #[.int .i64 i.op, .int .i64 i.rd, .int .i64 i.rs1, .int .i64 i.rs2, .int .i64 i.im, .int .i64 i.ln])).run Tryz.prog w = .ok (.bool true) w := by
  rw [eql_ins]; simp
set_option maxHeartbeats 2000000 in
theorem l_decodes (x : Int) (w : World) :
    Calls Tryz.prog 31 #[.int .i64 x] w fun e w' => e = .returned (.bool true) ∧ Below w.heap.size w w' := by
  have hd := i_Decode x w
  have hr := fun W => r_Decode x W
  rw [← decode_eq] at hr
  obtain ⟨V, hV⟩ : ∃ V, V = decodeD x := ⟨_, rfl⟩
  rw [← hV] at hd hr
  obtain ⟨i, er⟩ := V
  have hq := eql_self i
  have he : (er == er) = true := by simp
  have HD := hide1 hd
  have HR := hide1 hr
  unfold insV at HD HR
  clear hd hr hV
  go_enter Tryz.func31, Tryz.ntmps31
  go_wp2_with fail
  refine HD.out.mono ?_
  rintro e w1 ⟨rfl, hb1⟩
  have HB1 := hide1 (hb1.alloc hb1.size (.cells #[.int .i64 i.op, .int .i64 i.rd, .int .i64 i.rs1, .int .i64 i.rs2, .int .i64 i.im, .int .i64 i.ln] 53))
  clear hb1 HD
  go_wp2_with fail
  refine (HR.out _).mono ?_
  rintro e w2 ⟨rfl, hb2⟩
  have c0 : w2.cell? ⟨w1.heap.size, 0, none⟩ = some (.int .i64 i.op) := (hb2.cell (p := ⟨w1.heap.size, 0, none⟩) (by simp)).trans (by simp)
  have c1 : w2.cell? ⟨w1.heap.size, 1, none⟩ = some (.int .i64 i.rd) := (hb2.cell (p := ⟨w1.heap.size, 1, none⟩) (by simp)).trans (by simp)
  have c2 : w2.cell? ⟨w1.heap.size, 2, none⟩ = some (.int .i64 i.rs1) := (hb2.cell (p := ⟨w1.heap.size, 2, none⟩) (by simp)).trans (by simp)
  have c3 : w2.cell? ⟨w1.heap.size, 3, none⟩ = some (.int .i64 i.rs2) := (hb2.cell (p := ⟨w1.heap.size, 3, none⟩) (by simp)).trans (by simp)
  have c4 : w2.cell? ⟨w1.heap.size, 4, none⟩ = some (.int .i64 i.im) := (hb2.cell (p := ⟨w1.heap.size, 4, none⟩) (by simp)).trans (by simp)
  have c5 : w2.cell? ⟨w1.heap.size, 5, none⟩ = some (.int .i64 i.ln) := (hb2.cell (p := ⟨w1.heap.size, 5, none⟩) (by simp)).trans (by simp)
  have hl2 : w1.heap.size < w2.heap.size := Nat.lt_of_lt_of_le (by simp) hb2.size
  have HB2 := hide1 (HB1.out.trans (hb2.mono HB1.out.size))
  clear hb2 HR
  go_wp2_with fail
  go_ret
  exact ⟨rfl, HB2.out.alloc HB2.out.size _⟩
set_option maxHeartbeats 2000000 in
theorem l_encodes (i : Ins) (q0 : i.rd ≤ 9223372036854775807) (q1 : i.rs1 ≤ 9223372036854775807) (q2 : i.rs2 ≤ 9223372036854775807) (w : World) :
    Calls Tryz.prog 32 #[insV i] w fun e w' => e = .returned (.bool true) ∧ Below w.heap.size w w' := by
  have hd := i_Encode i
  have hr := fun W => r_Encode i q0 q1 q2 W
  rw [← encode_eq] at hr
  obtain ⟨V, hV⟩ : ∃ V, V = encodeD i := ⟨_, rfl⟩
  rw [← hV] at hd hr
  obtain ⟨v, er⟩ := V
  have he : (er == er) = true := by simp
  have hv : (v == v) = true := by simp
  have HD := hide1 hd
  have HR := hide1 hr
  unfold insV at HD HR ⊢
  clear hd hr hV
  go_enter Tryz.func32, Tryz.ntmps32
  go_wp2_with fail
  refine (HD.out _).mono ?_
  rintro e w1 ⟨rfl, hb1⟩
  have c0 : w1.cell? ⟨w.heap.size, 0, none⟩ = some (.int .i64 i.op) := (hb1.cell (p := ⟨w.heap.size, 0, none⟩) (by simp)).trans (by simp)
  have c1 : w1.cell? ⟨w.heap.size, 1, none⟩ = some (.int .i64 i.rd) := (hb1.cell (p := ⟨w.heap.size, 1, none⟩) (by simp)).trans (by simp)
  have c2 : w1.cell? ⟨w.heap.size, 2, none⟩ = some (.int .i64 i.rs1) := (hb1.cell (p := ⟨w.heap.size, 2, none⟩) (by simp)).trans (by simp)
  have c3 : w1.cell? ⟨w.heap.size, 3, none⟩ = some (.int .i64 i.rs2) := (hb1.cell (p := ⟨w.heap.size, 3, none⟩) (by simp)).trans (by simp)
  have c4 : w1.cell? ⟨w.heap.size, 4, none⟩ = some (.int .i64 i.im) := (hb1.cell (p := ⟨w.heap.size, 4, none⟩) (by simp)).trans (by simp)
  have c5 : w1.cell? ⟨w.heap.size, 5, none⟩ = some (.int .i64 i.ln) := (hb1.cell (p := ⟨w.heap.size, 5, none⟩) (by simp)).trans (by simp)
  have HB1 := hide1 (((Below.refl w.heap.size w).alloc (Nat.le_refl _) _).trans (hb1.mono (by simp)))
  clear hb1
  go_wp2_with fail
  refine (HR.out _).mono ?_
  rintro e w2 ⟨rfl, hb2⟩
  go_wp2_with fail
  go_ret
  exact ⟨rfl, HB1.out.trans (hb2.mono HB1.out.size)⟩
set_option maxHeartbeats 2000000 in
theorem l_writes (x : Int) (w : World) (ht : Hid (Tb w)) :
    Calls Tryz.prog 33 #[.int .i64 x] w fun e w' => e = .returned (.bool true) ∧ Below w.heap.size w w' := by
  have hd := a_Text' x w ht
  have hr := fun W => u_Text x W
  obtain ⟨V, hV⟩ : ∃ V, V = Byt.textD x := ⟨_, rfl⟩
  rw [← hV] at hd hr
  obtain ⟨m, er⟩ := V
  obtain ⟨X, hX⟩ : ∃ X : ByteArray, X = ⟨m.toArray⟩ := ⟨_, rfl⟩
  have he : (er == er) = true := by simp
  have hx : (X.toList == X.toList) = true := by simp
  have HD := hide1 hd
  have HR := hide1 hr
  unfold Byt.strV at HD HR
  simp only at HD HR
  rw [← hX] at HD HR
  clear hd hr hV hX
  go_enter Tryz.func33, Tryz.ntmps33
  go_wp2_with fail
  refine HD.out.mono ?_
  rintro e w1 ⟨rfl, hb1⟩
  go_wp2_with fail
  refine (HR.out _).mono ?_
  rintro e w2 ⟨rfl, hb2⟩
  go_wp2_with fail
  go_ret
  exact ⟨rfl, hb1.trans (hb2.mono hb1.size)⟩
def AsmPost (e : Ending) : Prop := ∃ X : ByteArray, e = .returned (.tuple #[.string X, .bool true])
set_option maxHeartbeats 2000000 in
theorem l_assembles (s : ByteArray) (w : World) :
    Calls Tryz.prog 34 #[.string s] w fun e w' => AsmPost e ∧ Below w.heap.size w w' := by
  have hd := a_Assemble s w
  have hr := fun W => u_Assemble s W
  obtain ⟨V, hV⟩ : ∃ V, V = Byt.asmD s.data.toList := ⟨_, rfl⟩
  rw [← hV] at hd hr
  obtain ⟨m, er, ln⟩ := V
  obtain ⟨X, hX⟩ : ∃ X : ByteArray, X = ⟨m.toArray⟩ := ⟨_, rfl⟩
  have he : (er == er) = true := by simp
  have hn : ((ln : Int) == (ln : Int)) = true := by simp
  have hx : (X.toList == X.toList) = true := by simp
  have HD := hide1 hd
  have HR := hide1 hr
  unfold Byt.strV at HD HR
  simp only at HD HR
  rw [← hX] at HD HR
  clear hd hr hV hX
  go_enter Tryz.func34, Tryz.ntmps34
  go_wp2_with fail
  refine HD.out.mono ?_
  rintro e w1 ⟨rfl, hb1⟩
  go_wp2_with fail
  refine (HR.out _).mono ?_
  rintro e w2 ⟨rfl, hb2⟩
  go_wp2_with fail
  go_ret2
  exact ⟨⟨X, rfl⟩, hb1.trans (hb2.mono hb1.size)⟩
end Go.Proofs.YthfofjkfbhahoaaGreatDoor
end
section
namespace Go.Proofs.YthfofjkfbhahoaaGreatDoor
open Go.RowKit
set_option linter.unusedSimpArgs false
set_option maxHeartbeats 400000 in
theorem l_New (n : Int) (w : World) : Calls Tryz.prog 18 #[.int .i64 n] w fun e w' => e = .returned (.tuple #[.pointer none, .int .i64 0]) ∧ w' = w := by
  go_enter Tryz.func18, Tryz.ntmps18
  go_wp2
  go_ret2
  exact ⟨rfl, rfl⟩
set_option maxHeartbeats 1000000 in
theorem l_made (p : Value) (x : Int) (w : World) :
    Calls Tryz.prog 75 #[p, .int .i64 x] w fun e w' => e = .returned (.bool false) ∧ Below w.heap.size w w' := by
  go_enter Tryz.func75, Tryz.ntmps75
  go_wp2_with fail
  refine (l_New x w).mono ?_
  rintro e w1 ⟨rfl, rfl⟩
  go_wp2_with fail
  refine (u_refNew x w1).mono ?_
  rintro e w2 ⟨⟨q, er, rfl, her⟩, hb2⟩
  rcases her with rfl | rfl
  · go_wp2_with fail
    go_ret
    exact ⟨rfl, hb2⟩
  · go_wp2_with fail
    go_ret
    exact ⟨rfl, hb2⟩
/-- a step of a script -/
structure LOp where
  k : Int
  a : Int
  b : Int
  c : Int
  s : ByteArray
def LOp.v (x : LOp) : Value := .agg #[.int .i64 x.k, .int .i64 x.a, .int .i64 x.b, .int .i64 x.c, .string x.s]
def LOp.o (x : LOp) : Obj := .cells #[.int .i64 x.k, .int .i64 x.a, .int .i64 x.b, .int .i64 x.c, .string x.s] 39
structure LOk (x : LOp) : Prop where
  a1 : x.a ≤ 9223372036854775807
  b1 : x.b ≤ 9223372036854775807
  c1 : x.c ≤ 9223372036854775807
  s1 : x.s.size ≤ 1125899906842624
/-- the law's world: no machine, an instruction -/
structure Wx (w : World) (b : Nat) (i : Ins) : Prop where
  c0 : w.cell? ⟨b, 0, none⟩ = some (.slice none 0 0)
  c1 : w.cell? ⟨b, 1, none⟩ = some (.slice none 0 0)
  c2 : w.cell? ⟨b, 2, none⟩ = some (.int .i64 i.op)
  c3 : w.cell? ⟨b, 3, none⟩ = some (.int .i64 i.rd)
  c4 : w.cell? ⟨b, 4, none⟩ = some (.int .i64 i.rs1)
  c5 : w.cell? ⟨b, 5, none⟩ = some (.int .i64 i.rs2)
  c6 : w.cell? ⟨b, 6, none⟩ = some (.int .i64 i.im)
  c7 : w.cell? ⟨b, 7, none⟩ = some (.int .i64 i.ln)
  fro : ∀ o, w.frozen? ⟨b, o, none⟩ = false
  lt : b < w.heap.size
theorem Wx.more {w w' : World} {b n : Nat} {i : Ins} (h : Wx w b i) (hb : Below n w w') (hn : b < n) : Wx w' b i :=
  ⟨(hb.cell (p := ⟨b, 0, none⟩) hn).trans h.c0, (hb.cell (p := ⟨b, 1, none⟩) hn).trans h.c1, (hb.cell (p := ⟨b, 2, none⟩) hn).trans h.c2, (hb.cell (p := ⟨b, 3, none⟩) hn).trans h.c3, (hb.cell (p := ⟨b, 4, none⟩) hn).trans h.c4, (hb.cell (p := ⟨b, 5, none⟩) hn).trans h.c5, (hb.cell (p := ⟨b, 6, none⟩) hn).trans h.c6, (hb.cell (p := ⟨b, 7, none⟩) hn).trans h.c7, fun o => (hb.frozen (p := ⟨b, o, none⟩) hn).trans (h.fro o), Nat.lt_of_lt_of_le h.lt hb.size⟩
theorem Wx.put {w : World} {b : Nat} {i : Ins} (h : Wx w b i) (o d r s m l : Int) : Wx ((((((w.setCell ⟨b, 2, none⟩ (.int .i64 o)).setCell ⟨b, 3, none⟩ (.int .i64 d)).setCell ⟨b, 4, none⟩ (.int .i64 r)).setCell ⟨b, 5, none⟩ (.int .i64 s)).setCell ⟨b, 6, none⟩ (.int .i64 m)).setCell ⟨b, 7, none⟩ (.int .i64 l)) b ⟨o, d, r, s, m, l⟩ := by
  have x0 := h.c0
  have x1 := h.c1
  have x2 := h.c2
  have x3 := h.c3
  have x4 := h.c4
  have x5 := h.c5
  have x6 := h.c6
  have x7 := h.c7
  have xf := h.fro
  have xl := h.lt
  refine ⟨?_, ?_, ?_, ?_, ?_, ?_, ?_, ?_, ?_, ?_⟩ <;> simp [go_sem, x0, x1, x2, x3, x4, x5, x6, x7, xf, xl]
/-- a bool; true but at kind 1 -/
def Res1 (k : Int) (e : Ending) : Prop := ∃ r, e = .returned (.bool r) ∧ Hid (¬ k = 1 → r = true)
def WPost (wb : Nat) (w w' : World) : Prop := Below wb w w' ∧ ∃ i, Wx w' wb i ∧ i.rd ≤ 9223372036854775807 ∧ i.rs1 ≤ 9223372036854775807
theorem wpost_more {wb : Nat} {w w' : World} {i : Ins} (hx : Wx w wb i) (h0 : i.rd ≤ 9223372036854775807) (h1 : i.rs1 ≤ 9223372036854775807) (hb : Below w.heap.size w w') : WPost wb w w' :=
  ⟨hb.mono (Nat.le_of_lt hx.lt), i, hx.more hb hx.lt, h0, h1⟩
set_option maxHeartbeats 2000000 in
theorem l_drive (wb : Nat) (x : LOp) (w : World) (hc : w.cell? ⟨wb, 0, none⟩ = some (.slice none 0 0)) (hwb : wb < w.heap.size) :
    Calls Tryz.prog 35 #[.pointer (some ⟨wb, 0, none⟩), x.v] w fun e w' => Res1 x.k e ∧ Below w.heap.size w w' := by
  have HBW : Hid (∀ o, Below w.heap.size w (w.alloc o)) := fun o => (Below.refl _ _).alloc (Nat.le_refl _) _
  obtain ⟨k, a, b, c, s⟩ := x
  unfold LOp.v
  simp only
  by_cases e1 : k = 1
  · subst e1
    have hm := fun W => l_made (.pointer (some ⟨wb, 0, none⟩)) b W
    have HM := hide1 hm
    clear hm
    go_enter Tryz.func35, Tryz.ntmps35
    go_wp2_with fail
    refine (HM.out _).mono ?_
    rintro e w1 ⟨rfl, hb1⟩
    go_wp2_with fail
    go_ret
    exact ⟨⟨false, rfl, hide1 (fun h => absurd rfl h)⟩, (HBW.out _).trans (hb1.mono (HBW.out _).size)⟩
  · have q1 : (k == 1) = false := by simp [e1]
    clear e1
    go_enter Tryz.func35, Tryz.ntmps35
    go_wp2_with fail
    go_ret
    exact ⟨⟨true, rfl, hide1 (fun _ => rfl)⟩, HBW.out _⟩
end Go.Proofs.YthfofjkfbhahoaaGreatDoor
end
