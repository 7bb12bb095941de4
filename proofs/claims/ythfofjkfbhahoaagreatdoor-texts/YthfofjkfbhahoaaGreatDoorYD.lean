import Derived.Test.YthfofjkfbhahoaaGreatDoorXQ
import Derived.Test.YthfofjkfbhahoaaGreatDoorXA
section
namespace Go.Proofs.YthfofjkfbhahoaaGreatDoor
open Go.RowKit
set_option linter.unusedSimpArgs false
def busC (p : Option Addr) (n c : Nat) : Obj := .cells #[.slice p n c, .int .i64 0, .int .i64 0, .int .i64 0, .int .i64 0, .int .i64 0, .int .i64 0, .int .i64 0, .bool false, .string ⟨#[]⟩, .string ⟨#[]⟩] 178
set_option maxHeartbeats 4000000 in
theorem u_busReset (p : Option Addr) (n c : Nat) (W : World) :
    Calls Tryz.prog 185 #[.pointer (some ⟨W.heap.size, 0, none⟩)] (W.alloc (busC p n c)) fun e w' => e = .returned (.tuple #[]) ∧ Below W.heap.size W w' := by
  unfold busC
  go_enter Tryz.func185, Tryz.ntmps185
  go_wp2_with fail
  go_end0
  exact ⟨rfl, (Below.refl _ _).alloc (Nat.le_refl _) _⟩
def csrC (p : Option Addr) : Obj := .cells #[.pointer p, .int .i64 0, .int .i64 0, .int .i64 0, .int .i64 0, .int .i64 0, .int .i64 0, .int .i64 0, .int .i64 0, .int .i64 0, .int .i64 0, .int .i64 0, .int .i64 0, .int .i64 0, .int .i64 0, .int .i64 0, .int .i64 0, .int .i64 0, .int .i64 0, .int .i64 0, .int .i64 0, .int .i64 0, .int .i64 0, .int .i64 0, .int .i64 0, .int .i64 0, .int .i64 0, .int .i64 0, .int .i64 0, .int .i64 0, .int .i64 0, .int .i64 0, .int .i64 0, .int .i64 0, .int .i64 0, .int .i64 0, .int .i64 0, .bool false, .bool false] 184
set_option maxHeartbeats 4000000 in
theorem u_csrReset (p : Option Addr) (W : World) :
    Calls Tryz.prog 186 #[.pointer (some ⟨W.heap.size, 0, none⟩)] (W.alloc (csrC p)) fun e w' => e = .returned (.tuple #[]) ∧ Below W.heap.size W w' := by
  unfold csrC
  go_enter Tryz.func186, Tryz.ntmps186
  go_wp2_with fail
  go_end0
  exact ⟨rfl, (Below.refl _ _).alloc (Nat.le_refl _) _⟩
set_option maxHeartbeats 4000000 in
theorem u_csrNew (p : Option Addr) (W : World) :
    Calls Tryz.prog 177 #[.pointer p] W fun e w' => e = .returned (.pointer (some ⟨W.heap.size, 0, none⟩)) ∧ Below W.heap.size W w' := by
  have hr := u_csrReset p W
  have HR := hide1 hr
  unfold csrC at HR
  clear hr
  go_enter Tryz.func177, Tryz.ntmps177
  go_wp2_with fail
  refine HR.out.mono ?_
  rintro e w1 ⟨rfl, hb1⟩
  go_wp2_with fail
  go_ret
  exact ⟨rfl, hb1⟩
def BusPost (e : Ending) : Prop := ∃ p er, e = .returned (.tuple #[.pointer p, .int .i64 er]) ∧ (er = 0 ∨ er = 2)
set_option maxHeartbeats 4000000 in
theorem u_busNew (x : Int) (W : World) :
    Calls Tryz.prog 176 #[.int .i64 x] W fun e w' => BusPost e ∧ Below W.heap.size W w' := by
  obtain ⟨i0, hi, hz0, hz1, hz2⟩ := info_parts Tryz.info5
  by_cases h0 : x < 0
  · have e0 : decide (x < 0) = true := by simp [h0]
    go_enter Tryz.func176, Tryz.ntmps176
    go_wp2_with fail
    go_ret2
    exact ⟨⟨_, _, rfl, .inr rfl⟩, Below.refl _ _⟩
  by_cases h1 : 65536 < x
  · have e0 : decide (x < 0) = false := by simp; omega
    have e1 : decide (65536 < x) = true := by simp; omega
    go_enter Tryz.func176, Tryz.ntmps176
    go_wp2_with fail
    go_ret2
    exact ⟨⟨_, _, rfl, .inr rfl⟩, Below.refl _ _⟩
  · have e0 : decide (x < 0) = false := by simp; omega
    have e1 : decide (65536 < x) = false := by simp; omega
    obtain ⟨n, rfl⟩ : ∃ n : Nat, x = n := ⟨x.toNat, by omega⟩
    have hn : n ≤ 65536 := by omega
    have hr := fun W => u_busReset (some ⟨W.heap.size, 0, none⟩) n n W
    go_enter Tryz.func176, Tryz.ntmps176
    go_wp2_with (at_make; refine wpList_make_full _ rfl (.tmp 11) (.tmp 11) 91 rfl W.heap.size 5 i0 (.int .u8 0) 1 Tryz.underlying91 hi hz0 hz1 .i64 .i64 _ _ n rfl rfl rfl rfl (by rw [hz2]; omega) (by unfold maxLen; omega) (Nat.le_refl _) ?_; intro w1 hown hgrow)
    have HB1 : Hid (Below W.heap.size W w1) := hide1 ((Below.refl _ _).grown hgrow (Nat.le_refl _) (fun j hj => by cases hj))
    have HR := hide1 (u_busReset (some ⟨W.heap.size, 0, none⟩) n n w1)
    unfold busC at HR
    clear hr hown hgrow hi hz0 hz1 hz2
    go_wp2_with fail
    refine HR.out.mono ?_
    rintro e w2 ⟨rfl, hb2⟩
    go_wp2_with fail
    go_ret2
    exact ⟨⟨_, _, rfl, .inl rfl⟩, HB1.out.trans (hb2.mono HB1.out.size)⟩
set_option maxHeartbeats 4000000 in
theorem u_refNew (x : Int) (W : World) :
    Calls Tryz.prog 123 #[.int .i64 x] W fun e w' => BusPost e ∧ Below W.heap.size W w' := by
  have hmk : ∀ w, ∃ w', (Instr.makeSlice 27 (.int .i64 32) (.int .i64 32)).run Tryz.prog w = .ok (.slice (some ⟨w.heap.size, 0, none⟩) 32 32) w' ∧ Below w.heap.size w w' := fun w => ⟨w.alloc (.cells #[.int .i64 0, .int .i64 0, .int .i64 0, .int .i64 0, .int .i64 0, .int .i64 0, .int .i64 0, .int .i64 0, .int .i64 0, .int .i64 0, .int .i64 0, .int .i64 0, .int .i64 0, .int .i64 0, .int .i64 0, .int .i64 0, .int .i64 0, .int .i64 0, .int .i64 0, .int .i64 0, .int .i64 0, .int .i64 0, .int .i64 0, .int .i64 0, .int .i64 0, .int .i64 0, .int .i64 0, .int .i64 0, .int .i64 0, .int .i64 0, .int .i64 0, .int .i64 0] 3), by kernel_rfl, (Below.refl _ _).alloc (Nat.le_refl _) _⟩
  go_enter Tryz.func123, Tryz.ntmps123
  go_wp2_with fail
  refine (u_busNew x W).mono ?_
  rintro e w1 ⟨⟨p, er, rfl, her⟩, hb1⟩
  rcases her with rfl | rfl
  · go_wp2_with fail
    refine (u_csrNew p w1).mono ?_
    rintro e w2 ⟨rfl, hb2⟩
    have HB2 := hide1 (hb1.trans (hb2.mono hb1.size))
    clear hb1 hb2
    obtain ⟨w3, hm, hb3⟩ := hmk w2
    have HB3 := hide1 (HB2.out.trans (hb3.mono HB2.out.size))
    clear hmk hb3
    go_wp2_with fail
    go_ret2
    exact ⟨⟨_, _, rfl, .inl rfl⟩, HB3.out.alloc HB3.out.size _⟩
  · go_wp2_with fail
    go_ret2
    exact ⟨⟨_, _, rfl, .inr rfl⟩, hb1⟩
end Go.Proofs.YthfofjkfbhahoaaGreatDoor
end
