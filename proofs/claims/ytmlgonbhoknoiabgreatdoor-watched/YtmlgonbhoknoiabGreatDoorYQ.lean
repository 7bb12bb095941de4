import Derived.BigQuiet
import Derived.BigRegion
import Derived.Carry
import Derived.ChangeOld
import Derived.Deep.AppendLies
import Derived.Deep.CutBlock
import Derived.Deep.CutRange
import Derived.Deep.DeepCutAuto
import Derived.Deep.DrawnRows
import Derived.Deep.Light
import Derived.Deep.MidRow
import Derived.Deep.QuietTactic
import Derived.Deep.RegionHeld3
import Derived.Deep.RegionWith
import Derived.Deep.Slices
import Derived.JoinedOf
import Derived.LaidMore
import Derived.Laws.BytesArg
import Derived.Laws.Concat
import Derived.Laws.IdiomCopy
import Derived.Laws.IdiomStrings
import Derived.Lib.IndexBytes
import Derived.Lib.ItoaLen
import Derived.Lib.ItoaMem
import Derived.Lib.LaidTab
import Derived.Lib.Strings
import Derived.OpenShut
import Derived.ProofKit
import Derived.SevenTiedAt
import Derived.Shelf.LaysM
import Derived.Shelf.Strconv.Itoa0
import Derived.Shelf.Strconv.Itoa1
import Derived.Shelf.Strconv.Itoa2
import Derived.Shelf.Strconv.Itoa3
import Derived.SizedLaws
import Derived.Stop.Joined
import Derived.Test.YtmlgonbhoknoiabGreatDoorProg
import Derived.WalkKit
import Derived.WalkLawsBesides
import Derived.WalkSmall
namespace Go.Proofs.YtmlgonbhoknoiabGreatDoor
open Go.RowKit Go.Proofs.Tryz
theorem zn1 {α : Type} (a : α) : ∃ x, x = a := ⟨_, rfl⟩
theorem zn2 {α : Type} (a : α) : ∃ x, a = x := ⟨_, rfl⟩
theorem zz4 {b s : Nat} (h : b < s) : b < s /\ b < s + 1 /\ ¬ b = s + 1 /\ b < s + 1 + 1 /\ ¬ b = s + 1 + 1 /\ b < s + 1 + 1 + 1 /\ ¬ b = s + 1 + 1 + 1 /\ b < s + 1 + 1 + 1 + 1 /\ ¬ b = s + 1 + 1 + 1 + 1 := by omega
abbrev Zz4 (b s : Nat) : Prop := b < s /\ b < s + 1 /\ ¬ b = s + 1 /\ b < s + 1 + 1 /\ ¬ b = s + 1 + 1 /\ b < s + 1 + 1 + 1 /\ ¬ b = s + 1 + 1 + 1 /\ b < s + 1 + 1 + 1 + 1 /\ ¬ b = s + 1 + 1 + 1 + 1
abbrev Zc2 (w : World) (b : Nat) (x0 x1 : Int) : Prop := w.cell? ⟨b, 0, none⟩ = some (.int .i64 x0) /\ w.cell? ⟨b, 1, none⟩ = some (.int .i64 x1) /\ (∀ o, w.frozen? ⟨b, o, none⟩ = false) /\ Zz4 b w.heap.size
abbrev Zc6 (w : World) (b : Nat) (x0 x1 x2 x3 x4 x5 : Int) : Prop := w.cell? ⟨b, 0, none⟩ = some (.int .i64 x0) /\ w.cell? ⟨b, 1, none⟩ = some (.int .i64 x1) /\ w.cell? ⟨b, 2, none⟩ = some (.int .i64 x2) /\ w.cell? ⟨b, 3, none⟩ = some (.int .i64 x3) /\ w.cell? ⟨b, 4, none⟩ = some (.int .i64 x4) /\ w.cell? ⟨b, 5, none⟩ = some (.int .i64 x5) /\ (∀ o, w.frozen? ⟨b, o, none⟩ = false) /\ Zz4 b w.heap.size
abbrev CS (f : Nat) (a : Array Value) (r : Value) (w : World) : Prop := Calls prog f a w fun e w' => e = .returned r /\ w' = w
abbrev CB (f : Nat) (a : Array Value) (r : Value) (w : World) : Prop := Calls prog f a w fun e w' => e = .returned r /\ Below w.heap.size w w'
theorem zq0 {p : Prop} (h : p := by simp [Byt.dig]; omega) : p := h
theorem zq1 {p : Prop} (h : p := by simp [Byt.blank]; omega) : p := h
theorem zq2 {p : Prop} (h : p := by simp [Byt.nmc, Byt.letr, Byt.dig]; omega) : p := h
theorem zq3 {p : Prop} (h : p := by unfold Byt.hexv; rw [if_neg (by omega), if_neg (by omega), if_neg (by omega)]) : p := h
theorem zq4 {p : Prop} (h : p := by exact Nat.pow_le_pow_right (by decide) (by omega)) : p := h
theorem zq5 {p : Prop} (h : p := by exact List.drop_eq_nil_of_le (by simp)) : p := h
theorem zq6 {p : Prop} (h : p := by unfold roomD; split <;> omega) : p := h
theorem zq7 {p : Prop} (h : p := by exact Int.mul_nonneg (by omega) (by omega)) : p := h
theorem zq8 {p : Prop} (h : p := by rw [h1]; exact xsetD_lt _ _ _ hs (by omega)) : p := h
theorem zq9 {p : Prop} (h : p := by rw [IntKind.wrap_i64]; omega) : p := h
theorem zq10 {p : Prop} (h : p := by exact hide1 (hw.out.alloc _)) : p := h
theorem zq11 {p : Prop} (h : p := by exact b_and sa 2147483648 (by omega) (by omega)) : p := h
theorem zq12 {p : Prop} (h : p := by unfold bitN; simp at hp |-; omega) : p := h
theorem zq13 {p : Prop} (h : p := by exact (hk1.cell zq492 zq492).trans (by first | (simp; done) | (simp [*]; done) | (rw [alloc_ne _ _ _ _ (by simp <;> omega)]; first | assumption | (simp; done) | (simp [*]; done)))) : p := h
theorem zq14 {p : Prop} (h : p := by exact fun o => (hk1.frozen zq492 zq492).trans (by first | (simp; done) | (simp [*]; done) | (rw [alloc_nef _ _ _ _ (by simp <;> omega)]; first | (simp; done) | (simp [*]; done)))) : p := h
theorem zq15 {p : Prop} (h : p := by exact Nat.lt_of_lt_of_le zq492 hk1.size) : p := h
theorem zq16 {p : Prop} (h : p := by exact hide1 ((hx1.alloc _).alloc _)) : p := h
theorem zq17 {p : Prop} (h : p := by exact (hk1.cell zq492 zq492).trans zq542) : p := h
theorem zq18 {p : Prop} (h : p := by exact fun o => (hk1.frozen zq492 zq492).trans zq543) : p := h
theorem zq19 {p : Prop} (h : p := by exact (hk2.cell zq492 zq492).trans zq542) : p := h
theorem zq20 {p : Prop} (h : p := by exact fun o => (hk2.frozen zq492 zq492).trans zq543) : p := h
theorem zq21 {p : Prop} (h : p := by exact Nat.lt_of_lt_of_le zq492 hk2.size) : p := h
theorem zq22 {p : Prop} (h : p := by exact hide1 ((hw.out.alloc _).alloc _)) : p := h
theorem zq23 {p : Prop} (h : p := by exact (hk1.cell zq492 zq492).trans zq544) : p := h
theorem zq25 {p : Prop} (h : p := by exact (hk1.cell zq492 zq492).trans zq546) : p := h
theorem zq27 {p : Prop} (h : p := by exact (hk1.cell zq492 zq492).trans zq548) : p := h
theorem zq28 {p : Prop} (h : p := by exact fun o => (hk1.frozen zq492 zq492).trans zq530) : p := h
theorem zq29 {p : Prop} (h : p := by exact (hk2.cell zq492 zq492).trans zq549) : p := h
theorem zq31 {p : Prop} (h : p := by exact (hk2.cell zq492 zq492).trans zq544) : p := h
theorem zq33 {p : Prop} (h : p := by exact (hk2.cell zq492 zq492).trans zq546) : p := h
theorem zq35 {p : Prop} (h : p := by exact hide1 (fun W => by have := x_isTimer pa n (by omega) (by omega) W; rw [show (decide ((n : Int) = 4 /\ ((pa : Int) = 33554432 \/ (pa : Int) = 33570816 \/ (pa : Int) = 33570820 \/ (pa : Int) = 33603576 \/ (pa : Int) = 33603580))) = true from ht] at this; exact this)) : p := h
theorem zq36 {p : Prop} (h : p := by exact hide1 (fun W => by have := x_isTimer pa n (by omega) (by omega) W; rw [show (decide ((n : Int) = 4 /\ ((pa : Int) = 33554432 \/ (pa : Int) = 33570816 \/ (pa : Int) = 33570820 \/ (pa : Int) = 33603576 \/ (pa : Int) = 33603580))) = false from htm] at this; exact this)) : p := h
theorem zq37 {p : Prop} (h : p := by exact hide1 (fun W => by have := x_isPort pa n (by omega) (by omega) W; rw [show (decide ((n : Int) = 1 /\ ((pa : Int) = 268435456 \/ (pa : Int) = 268435457 \/ (pa : Int) = 268435458 \/ (pa : Int) = 268435461 \/ (pa : Int) = 268435463))) = true from ht] at this; exact this)) : p := h
theorem zq38 {p : Prop} (h : p := by exact XAt.kept zq509 hk1) : p := h
theorem zq39 {p : Prop} (h : p := by exact hide1 (fun W => by have := x_isTimer pa n (by omega) (by omega) W; rw [show (decide ((n : Int) = 4 /\ ((pa : Int) = 33554432 \/ (pa : Int) = 33570816 \/ (pa : Int) = 33570820 \/ (pa : Int) = 33603576 \/ (pa : Int) = 33603580))) = false from ht] at this; exact this)) : p := h
theorem zq40 {p : Prop} (h : p := by exact hide1 (fun W => by have := x_isPort pa n (by omega) (by omega) W; rw [show (decide ((n : Int) = 1 /\ ((pa : Int) = 268435456 \/ (pa : Int) = 268435457 \/ (pa : Int) = 268435458 \/ (pa : Int) = 268435461 \/ (pa : Int) = 268435463))) = false from hp] at this; exact this)) : p := h
theorem zq41 {p : Prop} (h : p := by rw [and_one]; exact hb) : p := h
theorem zq42 {p : Prop} (h : p := by have := H3.out; omega) : p := h
theorem zq43 {p : Prop} (h : p := by have := hb1.size; simp at this; omega) : p := h
theorem zq44 {p : Prop} (h : p := by rw [hc2 _ _ (by omega), hc _ _ (by simp; omega)]; simp) : p := h
theorem zq45 {p : Prop} (h : p := by rw [hc2 _ _ (by omega), hc _ _ (by simp)]; simp) : p := h
theorem zq46 {p : Prop} (h : p := by exact ((((Below.refl _ _).alloc (Nat.le_refl _) _).alloc (by simp) _)).trans (hb1.mono (by simp; omega))) : p := h
theorem zq47 {p : Prop} (h : p := by exact (hB.cell (by simp)).trans (by simp)) : p := h
theorem zq48 {p : Prop} (h : p := by exact (hc2 _ _ (by simp)).trans (by simp)) : p := h
theorem zq49 {p : Prop} (h : p := by exact hide1 (fun W => by have := x_isBranch op W; rw [show decide (5 <= op /\ op <= 10) = true by simp <;> omega] at this; exact this)) : p := h
theorem zq50 {p : Prop} (h : p := by exact hide1 (fun W => by have := x_isBranch op W; rw [show decide (5 <= op /\ op <= 10) = false by simp <;> omega] at this; exact this)) : p := h
theorem zq51 {p : Prop} (h : p := by unfold vaD wordN; omega) : p := h
theorem zq52 {p : Prop} (h : p := by exact hide1 (fun W => by rw [nD_cast]; exact x_accessSize i.op W)) : p := h
theorem zq53 {p : Prop} (h : p := by exact hide1 (fun W => x_word _ W)) : p := h
theorem zq54 {p : Prop} (h : p := by exact (hk1.cell zq528 zq528).trans (by rw [cell_drewN]; rw [alloc_ne _ _ _ _ (by first | omega | (simp <;> omega))]; rw [alloc_own _ _ _ _ _ (by first | omega | (simp <;> omega))]; rfl)) : p := h
theorem zq56 {p : Prop} (h : p := by exact Nat.lt_of_lt_of_le zq528 hk1.size) : p := h
theorem zq57 {p : Prop} (h : p := by exact (hk1.cell zq528 zq528).trans (by rw [cell_drewN]; rw [alloc_own _ _ _ _ _ (by first | omega | (simp <;> omega))]; rfl)) : p := h
theorem zq59 {p : Prop} (h : p := by exact Nat.lt_of_lt_of_le r1lt (by rw [show (4294967296 : Nat) = 256 ^ 4 from rfl]; exact Nat.pow_le_pow_right (by omega) (by omega))) : p := h
theorem zq60 {p : Prop} (h : p := by exact (hk2.cell zq528 zq528).trans (by rw [alloc_ne _ _ _ _ (by first | omega | (simp <;> omega))]; rw [alloc_ne _ _ _ _ (by first | omega | (simp <;> omega))]; rw [alloc_ne _ _ _ _ (by first | omega | (simp <;> omega))]; rw [alloc_ne _ _ _ _ (by first | omega | (simp <;> omega))]; assumption)) : p := h
theorem zq61 {p : Prop} (h : p := by exact fun o => (hk2.frozen zq528 zq528).trans (by rw [alloc_nef _ _ _ _ (by first | omega | (simp <;> omega))]; rw [alloc_nef _ _ _ _ (by first | omega | (simp <;> omega))]; rw [alloc_nef _ _ _ _ (by first | omega | (simp <;> omega))]; rw [alloc_nef _ _ _ _ (by first | omega | (simp <;> omega))]; first | assumption | (simp [*]; done))) : p := h
theorem zq62 {p : Prop} (h : p := by exact Nat.lt_of_lt_of_le zq528 hk2.size) : p := h
theorem zq63 {p : Prop} (h : p := by exact (hk2.cell zq528 zq528).trans (by rw [alloc_ne _ _ _ _ (by first | omega | (simp <;> omega))]; rw [alloc_ne _ _ _ _ (by first | omega | (simp <;> omega))]; rw [alloc_ne _ _ _ _ (by first | omega | (simp <;> omega))]; rw [alloc_own _ _ _ _ _ (by first | omega | (simp <;> omega))]; rfl)) : p := h
theorem zq65 {p : Prop} (h : p := by exact (hk2.cell zq528 zq528).trans zq544) : p := h
theorem zq67 {p : Prop} (h : p := by exact (hk3.cell zq528 zq528).trans (by assumption)) : p := h
theorem zq68 {p : Prop} (h : p := by exact fun o => (hk3.frozen zq528 zq528).trans zq551) : p := h
theorem zq69 {p : Prop} (h : p := by exact Nat.lt_of_lt_of_le zq528 hk3.size) : p := h
theorem zq70 {p : Prop} (h : p := by exact (hk4.cell zq528 zq528).trans (by assumption)) : p := h
theorem zq71 {p : Prop} (h : p := by exact fun o => (hk4.frozen zq528 zq528).trans zq551) : p := h
theorem zq72 {p : Prop} (h : p := by exact Nat.lt_of_lt_of_le zq528 hk4.size) : p := h
theorem zq73 {p : Prop} (h : p := by exact hide1 (fun W => by rw [nD_cast]; exact x_extended V (xaccD i.op) (Int.natCast_nonneg _) (by have h := Int.ofNat_lt.2 hVl; exact h) W)) : p := h
theorem zq74 {p : Prop} (h : p := by exact hide1 (fun W h => x_ramNumber_yes mb rb X hram pa p 4 (by omega) (by omega) (by omega) hl W h)) : p := h
theorem zq75 {p : Prop} (h : p := by exact (hk1.cell zq528 zq528).trans zq548) : p := h
theorem zq76 {p : Prop} (h : p := by exact fun o => (hk1.frozen zq528 zq528).trans zq530) : p := h
theorem zq77 {p : Prop} (h : p := by exact hide1 (fun W h => x_setRamNumber_yes mb rb X hram pa p 4 (by omega) (by omega) (by omega) hl _ hb W h)) : p := h
theorem zq78 {p : Prop} (h : p := by rw [<- hsc]; unfold scB; congr 1; rw [Bool.eq_iff_iff]; simp; omega) : p := h
theorem zq79 {p : Prop} (h : p := by exact hide1 (fun W => by rw [kD_apu]; exact x_atomicPurpose i.op W)) : p := h
theorem zq80 {p : Prop} (h : p := by exact hide1 (fun W h => by have := x_isRam mb rb (X.withB B) hram pa 4 (by omega) (by omega) (by omega) (by omega) W h; rw [show (X.withB B).b.ram.length = B.ram.length from rfl, hh] at this; exact this)) : p := h
theorem zq81 {p : Prop} (h : p := by exact (hk1.cell zq528 zq528).trans zq546) : p := h
theorem zq83 {p : Prop} (h : p := by exact (hk2.cell zq528 zq528).trans (by rw [alloc_ne _ _ _ _ (by first | omega | (simp <;> omega))]; rw [alloc_ne _ _ _ _ (by first | omega | (simp <;> omega))]; assumption)) : p := h
theorem zq84 {p : Prop} (h : p := by exact fun o => (hk2.frozen zq528 zq528).trans (by rw [alloc_nef _ _ _ _ (by first | omega | (simp <;> omega))]; rw [alloc_nef _ _ _ _ (by first | omega | (simp <;> omega))]; first | assumption | (simp [*]; done))) : p := h
theorem zq85 {p : Prop} (h : p := by exact (hk2.cell zq528 zq528).trans zq546) : p := h
theorem zq87 {p : Prop} (h : p := by rw [hcs]; rfl) : p := h
theorem zq88 {p : Prop} (h : p := by rw [hw2]; simp [size_setCells]) : p := h
theorem zq89 {p : Prop} (h : p := by exact hr2 0 _ zq552) : p := h
theorem zq90 {p : Prop} (h : p := by exact hr2 1 _ zq552) : p := h
theorem zq91 {p : Prop} (h : p := by exact hr2 2 _ zq552) : p := h
theorem zq92 {p : Prop} (h : p := by exact hr2 3 _ zq552) : p := h
theorem zq93 {p : Prop} (h : p := by exact hr2 4 _ zq552) : p := h
theorem zq94 {p : Prop} (h : p := by exact hr2 5 _ zq552) : p := h
theorem zq95 {p : Prop} (h : p := by exact hr2 6 _ zq552) : p := h
theorem zq96 {p : Prop} (h : p := by exact hr2 7 _ zq552) : p := h
theorem zq97 {p : Prop} (h : p := by exact hr2 8 _ zq552) : p := h
theorem zq98 {p : Prop} (h : p := by exact hr2 9 _ zq552) : p := h
theorem zq99 {p : Prop} (h : p := by exact hr2 10 _ zq552) : p := h
theorem zq100 {p : Prop} (h : p := by exact hr2 11 _ zq552) : p := h
theorem zq101 {p : Prop} (h : p := by exact hr2 12 _ zq552) : p := h
theorem zq102 {p : Prop} (h : p := by exact hr2 13 _ zq552) : p := h
theorem zq103 {p : Prop} (h : p := by exact hr2 14 _ zq552) : p := h
theorem zq104 {p : Prop} (h : p := by exact hr2 15 _ zq552) : p := h
theorem zq105 {p : Prop} (h : p := by exact hr2 16 _ zq552) : p := h
theorem zq106 {p : Prop} (h : p := by exact hr2 17 _ zq552) : p := h
theorem zq107 {p : Prop} (h : p := by exact hr2 18 _ zq552) : p := h
theorem zq108 {p : Prop} (h : p := by exact hr2 19 _ zq552) : p := h
theorem zq109 {p : Prop} (h : p := by exact hr2 20 _ zq552) : p := h
theorem zq110 {p : Prop} (h : p := by exact hr2 21 _ zq552) : p := h
theorem zq111 {p : Prop} (h : p := by exact hr2 22 _ zq552) : p := h
theorem zq112 {p : Prop} (h : p := by unfold setXR; split <;> rfl) : p := h
theorem zq113 {p : Prop} (h : p := by exact (hk2.cell zq528 zq528).trans (by assumption)) : p := h
theorem zq114 {p : Prop} (h : p := by exact fun o => (hk2.frozen zq528 zq528).trans zq551) : p := h
theorem zq115 {p : Prop} (h : p := by exact wrap_in _ (by omega)) : p := h
theorem zq116 {p : Prop} (h : p := by exact (hk3.cell zq528 zq528).trans zq553) : p := h
theorem zq117 {p : Prop} (h : p := by exact fun o => (hk3.frozen zq528 zq528).trans zq529) : p := h
theorem zq118 {p : Prop} (h : p := by exact (hk3.cell zq528 zq528).trans zq548) : p := h
theorem zq120 {p : Prop} (h : p := by first | (simp; done) | (simp; omega)) : p := h
theorem zq121 {p : Prop} (h : p := by exact (hk1.cell zq528 zq528).trans (by first | (rw [alloc_own _ _ _ _ _ (by simp [World.setCell])]; rfl) | (rw [set_other _ _ _ _ _ _ (by omega)]; first | assumption | (simp; done) | (simp [*]; done)))) : p := h
theorem zq124 {p : Prop} (h : p := by exact (hk3.cell zq528 zq528).trans zq549) : p := h
theorem zq126 {p : Prop} (h : p := by exact (hk3.cell zq528 zq528).trans zq544) : p := h
theorem zq128 {p : Prop} (h : p := by exact (hk3.cell zq528 zq528).trans zq546) : p := h
theorem zq130 {p : Prop} (h : p := by exact (hk0.cell zq528 zq528).trans zq548) : p := h
theorem zq133 {p : Prop} (h : p := by exact (hk2.cell zq528 zq528).trans zq553) : p := h
theorem zq134 {p : Prop} (h : p := by exact (hk2.cell zq528 zq528).trans zq548) : p := h
theorem zq135 {p : Prop} (h : p := by exact (Below.refl _ _).alloc (Nat.le_refl _) _) : p := h
theorem zq136 {p : Prop} (h : p := by exact (Kept.refl _ _).alloc _) : p := h
theorem zq137 {p : Prop} (h : p := by exact ((Below.refl _ _).alloc (by simp) _).alloc (by simp) _) : p := h
theorem zq138 {p : Prop} (h : p := by exact hide1 (kept_of k0)) : p := h
theorem zq139 {p : Prop} (h : p := by exact ht.out.more ((Below.refl _ _).alloc (Nat.le_refl _) _)) : p := h
theorem zq140 {p : Prop} (h : p := by exact hide1 ((Kept.refl _ _).setCell (.inl (by simp)) _)) : p := h
theorem zq141 {p : Prop} (h : p := by rw [andE (x := (V : Int)) (y := 1) (m := 1) rfl rfl hV (by decide), Nat.and_one_is_mod]) : p := h
theorem zq142 {p : Prop} (h : p := by exact hide1 ⟨hs.out.kept ((Kept.refl [] w).alloc _), by rw [hdb]; exact BoxF.new w [.int .i64 k, .int .i64 (c : Int)] _⟩) : p := h
theorem zq146 {p : Prop} (h : p := by rw [Int.tdiv_eq_ediv_of_nonneg (by omega)]; omega) : p := h
theorem zq147 {p : Prop} (h : p := by exact beq_eq_false_iff_ne.2 (by omega)) : p := h
theorem zq148 {p : Prop} (h : p := by exact hide1 (fun i h => (hL.out.pr i h).m.lt)) : p := h
theorem zq150 {p : Prop} (h : p := by exact ⟨zq23, zq23, (by exact fun o => (hk1.frozen zq492 zq492).trans zq545), zz4 zq15⟩) : p := h
theorem zq151 {p : Prop} (h : p := by exact ⟨zq25, zq25, (by exact fun o => (hk1.frozen zq492 zq492).trans zq547), zz4 zq15⟩) : p := h
theorem zq152 {p : Prop} (h : p := by exact ⟨zq27, zq27, zq28, zz4 zq15⟩) : p := h
theorem zq153 {p : Prop} (h : p := by exact ⟨zq29, zq29, (by exact fun o => (hk2.frozen zq492 zq492).trans zq550), zz4 zq21⟩) : p := h
theorem zq154 {p : Prop} (h : p := by exact ⟨zq31, zq31, (by exact fun o => (hk2.frozen zq492 zq492).trans zq545), zz4 zq21⟩) : p := h
theorem zq155 {p : Prop} (h : p := by exact ⟨zq33, zq33, (by exact fun o => (hk2.frozen zq492 zq492).trans zq547), zz4 zq21⟩) : p := h
theorem zq156 {p : Prop} (h : p := by exact ⟨zq27, zq27, zq27, zq27, zq27, zq27, zq28, zz4 zq15⟩) : p := h
theorem zq157 {p : Prop} (h : p := by exact ⟨zq54, zq54, zq54, zq54, zq54, zq54, (by exact fun o => (hk1.frozen zq528 zq528).trans (by rw [fro_drewN]; rw [alloc_nef _ _ _ _ (by first | omega | (simp <;> omega))]; rw [alloc_ownf _ _ _ _ _ (by first | omega | (simp <;> omega))])), zz4 zq56⟩) : p := h
theorem zq158 {p : Prop} (h : p := by exact ⟨zq57, zq57, (by exact fun o => (hk1.frozen zq528 zq528).trans (by rw [fro_drewN]; rw [alloc_ownf _ _ _ _ _ (by first | omega | (simp <;> omega))])), zz4 zq56⟩) : p := h
theorem zq159 {p : Prop} (h : p := by exact ⟨zq60, zq60, zq60, zq60, zq60, zq60, zq61, zz4 zq62⟩) : p := h
theorem zq160 {p : Prop} (h : p := by exact ⟨zq60, zq60, zq61, zz4 zq62⟩) : p := h
theorem zq161 {p : Prop} (h : p := by exact ⟨zq63, zq63, (by exact fun o => (hk2.frozen zq528 zq528).trans (by rw [alloc_nef _ _ _ _ (by first | omega | (simp <;> omega))]; rw [alloc_nef _ _ _ _ (by first | omega | (simp <;> omega))]; rw [alloc_nef _ _ _ _ (by first | omega | (simp <;> omega))]; rw [alloc_ownf _ _ _ _ _ (by first | omega | (simp <;> omega))])), zz4 zq62⟩) : p := h
theorem zq162 {p : Prop} (h : p := by exact ⟨zq65, zq65, (by exact fun o => (hk2.frozen zq528 zq528).trans zq545), zz4 zq62⟩) : p := h
theorem zq163 {p : Prop} (h : p := by exact ⟨zq67, zq67, zq67, zq67, zq67, zq67, zq68, zz4 zq69⟩) : p := h
theorem zq164 {p : Prop} (h : p := by exact ⟨zq67, zq67, zq68, zz4 zq69⟩) : p := h
theorem zq165 {p : Prop} (h : p := by exact ⟨zq70, zq70, zq71, zz4 zq72⟩) : p := h
theorem zq166 {p : Prop} (h : p := by exact ⟨zq75, zq75, zq75, zq75, zq75, zq75, zq76, zz4 zq56⟩) : p := h
theorem zq167 {p : Prop} (h : p := by exact ⟨zq75, zq75, zq76, zz4 zq56⟩) : p := h
theorem zq168 {p : Prop} (h : p := by exact ⟨zq81, zq81, zq81, zq81, zq81, zq81, (by exact fun o => (hk1.frozen zq528 zq528).trans zq547), zz4 zq56⟩) : p := h
theorem zq169 {p : Prop} (h : p := by exact ⟨zq83, zq83, zq84, zz4 zq62⟩) : p := h
theorem zq170 {p : Prop} (h : p := by exact ⟨zq85, zq85, (by exact fun o => (hk2.frozen zq528 zq528).trans zq547), zz4 zq62⟩) : p := h
theorem zq171 {p : Prop} (h : p := by exact ⟨zq113, zq113, zq113, zq113, zq113, zq113, zq114, zz4 zq62⟩) : p := h
theorem zq173 {p : Prop} (h : p := by exact ⟨zq83, zq83, zq83, zq83, zq83, zq83, zq84, zz4 zq62⟩) : p := h
theorem zq174 {p : Prop} (h : p := by exact ⟨zq116, zq116, zq116, zq116, zq116, zq116, zq117, zz4 zq69⟩) : p := h
theorem zq175 {p : Prop} (h : p := by exact ⟨zq116, zq116, zq117, zz4 zq69⟩) : p := h
theorem zq176 {p : Prop} (h : p := by exact ⟨zq118, zq118, zq118, zq118, zq118, zq118, (by exact fun o => (hk3.frozen zq528 zq528).trans zq530), zz4 zq69⟩) : p := h
theorem zq177 {p : Prop} (h : p := by exact ⟨zq70, zq70, zq70, zq70, zq70, zq70, zq71, zz4 zq72⟩) : p := h
theorem zq178 {p : Prop} (h : p := by exact ⟨zq121, zq121, (by exact fun o => (hk1.frozen zq528 zq528).trans zq554), zz4 zq56⟩) : p := h
theorem zq179 {p : Prop} (h : p := by exact ⟨zq113, zq113, (by exact fun o => (hk2.frozen zq528 zq528).trans zq554), zz4 zq62⟩) : p := h
theorem zq180 {p : Prop} (h : p := by exact ⟨zq124, zq124, (by exact fun o => (hk3.frozen zq528 zq528).trans zq550), zz4 zq69⟩) : p := h
theorem zq181 {p : Prop} (h : p := by exact ⟨zq126, zq126, zq126, zq126, zq126, zq126, (by exact fun o => (hk3.frozen zq528 zq528).trans zq545), zz4 zq69⟩) : p := h
theorem zq182 {p : Prop} (h : p := by exact ⟨zq128, zq128, (by exact fun o => (hk3.frozen zq528 zq528).trans zq547), zz4 zq69⟩) : p := h
theorem zq183 {p : Prop} (h : p := by exact ⟨zq130, zq130, (by exact fun o => (hk0.frozen zq528 zq528).trans zq530), zz4 (by exact Nat.lt_of_lt_of_le zq528 hk0.size)⟩) : p := h
theorem zq184 {p : Prop} (h : p := by
 go_enter func308, ntmps308
 exact zq450) : p := h
theorem zq185 {p : Prop} (h : p := by
 go_enter func219, ntmps219
 exact zq450) : p := h
theorem zq186 {p : Prop} (h : p := by
 go_enter func307, ntmps307
 go_wp2_with (first | (go_at_call 308; refine (a_isDigit _ _).mono ?_; rintro e w' ⟨rfl, rfl⟩))
 exact zq451) : p := h
theorem zq187 {p : Prop} (h : p := by
 clear vv
 go_enter func442, ntmps442
 go_wp2_with (go_at_call 308; refine (a_isDigit _ _).mono ?_; rintro e w' ⟨rfl, rfl⟩)
 go_ret
 exact ⟨by first | rfl | (refine congrArg (fun z => Ending.returned (Value.int .i64 z)) ?_; omega), rfl⟩) : p := h
theorem zq188 {p : Prop} (h : p := by
 go_enter func410, ntmps410
 go_wp2
 go_ret2
 exact ⟨⟨none, (by unfold Byt.rdig; rw [if_pos (by omega)] : _ = _), by simp, rfl⟩, rfl⟩) : p := h
theorem zq189 {p : Prop} (h : p := by
 have hn := hide1 (digs_miss hi (by rw [<- HD.out]; exact hlt) hh)
 clear hh
 go_wp2
 go_ret2
 exact ⟨⟨none, hn, by simp, rfl⟩, rfl⟩) : p := h
theorem zq190 {p : Prop} (h : p := by
 obtain rfl : i = s.size := by omega
 have hd : s.data.toList.drop s.size = [] := zq5
 rw [hd] at hh
 have hT : Hid (some acc = T) := hh
 clear hh hd
 go_wp2
 go_ret2
 exact ⟨⟨some acc, hT.out.symm, ba, rfl⟩, rfl⟩) : p := h
theorem zq191 {p : Prop} (h : p := by simp [intOf]; omega) : p := h
theorem zq192 {p : Prop} (h : p := by
 go_ret
 exact ⟨by rw [hT.out]; rfl, rfl⟩) : p := h
theorem zq193 {p : Prop} (h : p := by
 clear hh hin
 go_wp2_with (go_at_call 307; refine (a_isNameByte _ _).mono ?_; rintro e w' ⟨rfl, rfl⟩)
 go_round
 case rel => exact ⟨i + 1, by omega, by go_num, hv⟩
 case measure => exact zq191) : p := h
theorem zq194 {p : Prop} (h : p := by
 go_wp2
 go_ret
 exact ⟨by rw [hT.out]; rfl, rfl⟩) : p := h
theorem zq195 {p : Prop} (h : p := by
 go_wp2
 exact zq196) : p := h
theorem zq196 {p : Prop} (h : p := by
 go_ret
 exact ⟨rfl, rfl⟩) : p := h
theorem zq197 {p : Prop} (h : p := by
 constructor
 . intro h; apply UInt8.toNat_inj.1; simp; omega
 . intro h; subst h; simp; omega) : p := h
theorem zq198 {p : Prop} (h : p := by
 go_enter func387, ntmps387
 go_wp2_with fail
 refine (a_readDigits_10 s hs _).mono ?_
 exact zq199) : p := h
theorem zq199 {p : Prop} (h : p := by
 rintro e w' ⟨⟨o, ho, hb, rfl⟩, rfl⟩
 exact zq452) : p := h
theorem zq200 {p : Prop} (h : p := by
 go_enter func357, ntmps357
 go_wp2_with fail
 refine (a_readPlain s hs _).mono ?_
 exact zq201) : p := h
theorem zq201 {p : Prop} (h : p := by
 rintro e w' ⟨⟨o, ho, hb, rfl⟩, rfl⟩
 rw [ho.out] at HP
 go_wp2
 go_ret2
 exact ⟨by rw [HP.out]; rfl, rfl⟩) : p := h
theorem zq202 {p : Prop} (h : p := by
 intro j u hj
 match j, hj with
 | 0, hj => simp at hj; subst hj; simp [Addr.add]) : p := h
theorem zq203 {p : Prop} (h : p := by intro u hu; simp at hu; subst hu; rfl) : p := h
theorem zq204 {p : Prop} (h : p := by
 go_wp2
 go_loopw [0, 5, 6] (fun x b i wr => ∃ k : Nat, k <= n /\ i = .int .i64 k /\ wr.ownsRow w.heap.size 5 1 b k ((leL v k).map (Value.int .u8)) /\ Below w.heap.size w wr /\ (∃ y, x = .int .i64 y /\ Hid (y = v / 256 ^ k))) (fun _ _ i _ => n - (intOf i).toNat)
 case atStart =>
  refine ⟨0, Nat.zero_le _, rfl, World.ownsRow_made w _ 8 (Nat.le_refl _) zq490 rfl, (Below.refl _ _).alloc (Nat.le_refl _) _, v, rfl, (by simp : v = v / 256 ^ 0)⟩
 case round =>
  obtain ⟨k, hk, rfl, hown, hb, y, rfl, hy⟩ := hrel
  by_cases hlt : k < n
  . have h8 : (k : Int) < 8 := by omega
    have hlt' : (k : Int) < n := by omega
    have hbs := hb.size
    have hrow : ∀ j, u5.ownBlock = some j -> w.heap.size <= j := fun j hj => (hown.lt j hj).1
    go_wp2_with (at_builtin; refine wpList_append_own _ rfl (.tmp 17) (.tmp 20) 64 rfl w.heap.size 5 i0 (.int .u8 0) 1 1 Tryz.underlying64 hi hz0 hz1 hz2 rfl (by decide) _ _ _ rfl (hown.alloc _) ⟨wr.heap.size, 0, none⟩ 1 1 [.int .u8 (y % 256)] rfl rfl ?c1 ?c2 ?c3 ?c4 ?c5 ?_)
    case c1 =>
     exact zq202
    case c2 => intro u hu; simp at hu; subst hu; rfl
    case c3 => unfold maxLen; omega
    case c4 => omega
    case c5 => simp; omega
    intro v' w1 hown' hgrow _
    clear hown
    go_wp2
    go_roundw
    case rel =>
     refine ⟨k + 1, by omega, by go_num, ?_, ?_, y / 256, rfl, ?_⟩
     . have e : (leL v (k + 1)).map (Value.int .u8) = (leL v k).map (Value.int .u8) ++ [Value.int .u8 (y % 256)] := by
        rw [hy.out]; simp [leL]
       rw [e]; exact hown'
     . exact (hb.alloc hbs _).grown hgrow (by simp; omega) hrow
     . show y / 256 = v / 256 ^ (k + 1)
       rw [hy.out, Int.pow_succ]; exact Int.ediv_ediv_of_nonneg (Int.pow_nonneg (by decide))
    case measure => exact zq191
  . have h8 : ¬ (k : Int) < n := by omega
    obtain rfl : k = n := by omega
    have hc := own_string 64 9 Tryz.underlying64 Tryz.underlying5 Tryz.underlying9 hown
    rcases hown.2 with ⟨rfl, h0⟩ | ⟨g, cap, cur, rfl, hg⟩
    . go_wp2
      go_ret
      exact ⟨rfl, hb⟩
    . go_wp2
      go_ret
      exact ⟨rfl, hb⟩) : p := h
theorem zq205 {p : Prop} (h : p := by
 repeat' split
 all_goals (dsimp only; omega)) : p := h
theorem zq206 {p : Prop} (h : p := by exact ⟨by dsimp only; omega, by dsimp only; omega⟩) : p := h
theorem zq207 {p : Prop} (h : p := by
 repeat' split
 all_goals exact this) : p := h
theorem zq208 {p : Prop} (h : p := by
 go_enter func211, ntmps211
 go_wp2
 go_ret
 exact ⟨by rw [show Pic.isLet c = false by simp [Pic.isLet]; omega]; rfl, rfl⟩) : p := h
theorem zq209 {p : Prop} (h : p := by
 go_round
 case rel => exact ⟨i, x / 2, nn, tt, by omega, by omega, by go_num, by go_num, by go_num, by go_num, H2⟩
 case measure => simp [intOf]) : p := h
theorem zq210 {p : Prop} (h : p := by
 go_wp2_with fail
 exact zq196) : p := h
theorem zq211 {p : Prop} (h : p := by
 go_wp2_with fail
 all_goals (go_ret; refine ⟨ret_intE ?_, rfl⟩; rw [HT.out]; simp_all)) : p := h
theorem zq212 {p : Prop} (h : p := by
 rw [e, e2] at this
 rw [this]; simp) : p := h
theorem zq213 {p : Prop} (h : p := by
 go_wp2_with fail
 go_ret
 exact ⟨ret_intE (by rw [HQ.out] <;> rfl), rfl⟩) : p := h
theorem zq214 {p : Prop} (h : p := by
 go_enter func264, ntmps264
 exact zq453) : p := h
theorem zq215 {p : Prop} (h : p := by
 have sa := sgn_bd a ha
 have sb := sgn_bd b hb
 obtain ⟨sa0, sa1⟩ := sa
 obtain ⟨sb0, sb1⟩ := sb
 exact zq216) : p := h
theorem zq216 {p : Prop} (h : p := by
 go_enter func266, ntmps266
 exact zq453) : p := h
theorem zq217 {p : Prop} (h : p := by
 go_wp2_with fail
 all_goals (go_ret; refine ⟨ret_boolE ?_, rfl⟩; rw [HT.out]; simp_all <;> try first | omega | (rw [Bool.eq_iff_iff]; simp; omega))) : p := h
theorem zq218 {p : Prop} (h : p := by
 go_wp2_with fail
 refine S1.out.mono ?_
 rintro e w1 ⟨rfl, rfl⟩
 go_wp2_with fail
 refine S2.out.mono ?_
 exact zq221) : p := h
theorem zq219 {p : Prop} (h : p := by
 go_wp2_with fail
 exact zq454) : p := h
theorem zq220 {p : Prop} (h : p := by
 go_enter func282, ntmps282
 exact zq219) : p := h
theorem zq221 {p : Prop} (h : p := by
 rintro e w1 ⟨rfl, rfl⟩
 exact zq210) : p := h
theorem zq222 {p : Prop} (h : p := by
 go_enter func189, ntmps189
 go_wp2_with (go_at_call 135; refine (x_word _ _).mono ?_; rintro e w' ⟨rfl, rfl⟩)
 go_ret
 exact ⟨ret_intE (by rw [W1.out]), rfl⟩) : p := h
theorem zq223 {p : Prop} (h : p := by rcases h with rfl | rfl | rfl | rfl | rfl | rfl | rfl | rfl | rfl | rfl | rfl | rfl | rfl | rfl | rfl | rfl | rfl | rfl | rfl | rfl | rfl | rfl | rfl | rfl | rfl | rfl | rfl | rfl | rfl | rfl | rfl | rfl <;> rfl) : p := h
theorem zq224 {p : Prop} (h : p := by exact ⟨rfl, hw.out, Kept.refl _ _⟩) : p := h
theorem zq225 {p : Prop} (h : p := by
 go_enter func256, ntmps256
 exact zq230) : p := h
theorem zq226 {p : Prop} (h : p := by repeat (first | exact Kept.refl _ _ | refine Kept.drew ?_ | refine Kept.alloc ?_ _)) : p := h
theorem zq227 {p : Prop} (h : p := by
 go_enter func186, ntmps186
 go_wp2_with fail
 refine (HY _).out.mono ?_
 rintro e w1 ⟨rfl, hk1⟩
 go_wp2_with (go_at_call 255; refine (x_oneIf _ _).mono ?_; rintro e w1 ⟨rfl, rfl⟩)
 go_ret
 exact ⟨ret_intE (by rw [HT.out]; rfl), ((Kept.refl _ _).alloc _).trans hk1⟩) : p := h
theorem zq228 {p : Prop} (h : p := by exact bodyPost_ret (v := .agg #[.int .i64 B.enable, .int .i64 B.scratch, .bool B.lost, .string B.rx, .string B.tx]) zq496 rfl ⟨rfl, zq494⟩) : p := h
theorem zq229 {p : Prop} (h : p := by
 go_region_with fail
 all_goals
  go_wp2_with fail
  exact bodyPost_ret (v := .tuple #[.int .i64 0, .agg #[.int .i64 B.enable, .int .i64 B.scratch, .bool B.lost, .string B.rx, .string B.tx]]) zq497 rfl ⟨rfl, zq494⟩) : p := h
theorem zq230 {p : Prop} (h : p := by
 go_wp2_with fail
 exact zq455) : p := h
theorem zq231 {p : Prop} (h : p := by
 go_enter func378, ntmps378
 exact zq210) : p := h
theorem zq232 {p : Prop} (h : p := by
 have HT : Hid (T = false) := by rw [hT]; rfl
 exact zq456) : p := h
theorem zq233 {p : Prop} (h : p := by
 have HT : Hid (T = V) := by rw [hT]; rfl
 exact zq456) : p := h
theorem zq234 {p : Prop} (h : p := by
 clear hT h0
 exact zq457) : p := h
theorem zq235 {p : Prop} (h : p := by
 go_enter func377, ntmps377
 go_wp2_with (first | (go_at_call 335; refine (PA _).out.mono ?_; rintro o w1 ⟨rfl, rfl⟩) | (go_at_call 375; refine (HTE.out _ hwa).mono ?_; rintro o w1 ⟨rfl, rfl⟩) | (go_at_call 376; refine (IP _).out.mono ?_; rintro o w1 ⟨rfl, rfl⟩))
 exact bodyPost_ret (v := .tuple #[.agg #[.int .i64 0, .int .i64 0, .int .i64 0], .int .i64 1]) zq499 rfl ⟨rfl, zq494⟩) : p := h
theorem zq236 {p : Prop} (h : p := by
 go_enter func334, ntmps334
 go_wp2_with fail
 refine (HS.out _ hwa).mono ?_
 rintro o w1 ⟨rfl, hx1, hk1⟩
 go_wp2_with fail
 go_end0
 exact ⟨rfl, hx1, ((Kept.refl _ _).alloc _).trans hk1⟩) : p := h
theorem zq237 {p : Prop} (h : p := by
 go_enter func260, ntmps260
 go_wp2_with (first | (go_at_call 331; refine (AM.out _ hwa).mono ?_; rintro o w1 ⟨rfl, rfl⟩) | (go_at_call 198; refine (x_fine _).mono ?_; rintro o w1 ⟨rfl, rfl⟩))
 exact bodyPost_ret (v := .tuple #[.int .i64 va, .agg #[.int .i64 (-1), .int .i64 0]]) (by simp [results, results260, go_sem]) rfl ⟨rfl, zq494⟩) : p := h
theorem zq238 {p : Prop} (h : p := by rw [if_neg (by simpa using h)] at hp; cases hp) : p := h
theorem zq239 {p : Prop} (h : p := by repeat (first | (with_reducible exact Kept.refl _ _) | (with_reducible refine Kept.setCell ?_ (Or.inl (by simp)) _) | (with_reducible refine Kept.drew ?_) | (with_reducible refine Kept.alloc ?_ _))) : p := h
theorem zq240 {p : Prop} (h : p := by repeat (first | (with_reducible exact Kept.refl _ _) | (with_reducible refine Kept.setCell ?_ (Or.inr zq492) _) | (with_reducible refine Kept.drew ?_) | (with_reducible refine Kept.alloc ?_ _) | (with_reducible refine Kept.trans ?_ (hk1.mono (by simp))))) : p := h
theorem zq241 {p : Prop} (h : p := by repeat (first | (with_reducible exact Kept.refl _ _) | (with_reducible refine Kept.setCell ?_ (Or.inr zq492) _) | (with_reducible refine Kept.drew ?_) | (with_reducible refine Kept.alloc ?_ _) | (with_reducible refine Kept.trans ?_ (hk2.mono (by simp))) | (with_reducible refine Kept.trans ?_ (hk1.mono (by simp))))) : p := h
theorem zq242 {p : Prop} (h : p := by
 rw [if_pos (by simp)]
 rw [show rpV ((pa, 0), B) va n k = .tuple #[.agg #[.int .i64 pa, .int .i64 n], .agg #[.int .i64 (-1), .int .i64 0]] from rfl]
 go_enter func339, ntmps339
 go_wp2_with fail
 refine (TR.out _ hwa).mono ?_
 rintro o w1 ⟨rfl, hx1, hk1⟩
 have pc0w1 : w1.cell? ⟨w.heap.size, 0, none⟩ = some (.int .i64 0) := zq17
 have pc1w1 : w1.cell? ⟨w.heap.size, 1, none⟩ = some (.int .i64 0) := zq17
 have pfw1 : ∀ o, w1.frozen? ⟨w.heap.size, o, none⟩ = false := zq18
 have pzw1 : w.heap.size < w1.heap.size := zq15
 have rc0w1 : w1.cell? ⟨w.heap.size + 1, 0, none⟩ = some (.int .i64 0) := zq17
 have rc1w1 : w1.cell? ⟨w.heap.size + 1, 1, none⟩ = some (.int .i64 0) := zq17
 have rfw1 : ∀ o, w1.frozen? ⟨w.heap.size + 1, o, none⟩ = false := zq18
 have rzw1 : w.heap.size + 1 < w1.heap.size := zq15
 have hx2 : Hid (XAt ((w1.alloc (.cells #[.int .i64 (-1), .int .i64 0] 118)).alloc (.cells #[.int .i64 (-1), .int .i64 0] 118)) mb rb (X.withB B)) := zq16
 go_upto_region 6 with (first | (go_at_call 82; refine (x_none _ _ _).mono ?_; rintro o wn ⟨rfl, rfl⟩) | (go_at_call 261; refine (HI.out _ hx2).mono ?_; rintro o w2 ⟨rfl, rfl⟩) | (go_at_call 340; refine (HTM.out _).mono ?_; rintro o w2 ⟨rfl, rfl⟩) | (go_at_call 342; refine (HPT.out _).mono ?_; rintro o w2 ⟨rfl, rfl⟩) | (go_at_call 274; refine (HFC.out _).mono ?_; rintro o w2 ⟨rfl, rfl⟩))
 go_region
 all_goals
  go_wp2_with fail
  refine bodyPost_ret (v := .tuple #[.agg #[.int .i64 pa, .int .i64 n], .agg #[.int .i64 (-1), .int .i64 0]]) zq506 rfl ⟨rfl, hx1.more (G := [w.heap.size, w.heap.size + 1]) ?_ (by simp; omega) (by simp; omega), ?_⟩
  . exact zq239
  . exact zq240) : p := h
theorem zq243 {p : Prop} (h : p := by
 rw [h1, h2, if_neg (by simp), if_pos rfl]
 unfold tmB at h
 simp at h
 obtain ⟨_, h | h | h | h | h⟩ := h <;> subst h <;> rfl) : p := h
theorem zq244 {p : Prop} (h : p := by
 simp at h
 obtain ⟨_, h | h | h | h | h⟩ := h <;> subst h <;> rfl) : p := h
theorem zq245 {p : Prop} (h : p := by
 go_wp2_with fail
 exact zq247) : p := h
theorem zq246 {p : Prop} (h : p := by repeat (first | (with_reducible exact Kept.refl _ _) | (with_reducible refine Kept.setM ?_ _ _) | (with_reducible refine Kept.setCell ?_ (Or.inr zq492) _) | (with_reducible refine Kept.drew ?_) | (with_reducible refine Kept.alloc ?_ _) | (with_reducible refine Kept.trans ?_ (hk1.mono (by simp))))) : p := h
theorem zq247 {p : Prop} (h : p := by
 go_ret
 exact zq248) : p := h
theorem zq248 {p : Prop} (h : p := by exact ⟨rfl, (Kept.refl _ _).alloc _⟩) : p := h
theorem zq249 {p : Prop} (h : p := by
 go_end0
 exact ⟨rfl, hx1, ((Kept.refl _ _).alloc _).trans hk1⟩) : p := h
theorem zq250 {p : Prop} (h : p := by
 show _ = _
 rw [<- h1, Nat.mul_add, Nat.mul_assoc, hb, Int.toNat_natCast, Nat.mul_comm b tt]; omega) : p := h
theorem zq251 {p : Prop} (h : p := by
 go_wp2_with (go_at_call 211; refine (i_isLet _ _).mono ?_; rintro e w' ⟨rfl, rfl⟩)
 go_round
 case rel => exact ⟨i, acc, tt * 2, yd, y1, y2, by omega, by go_num, by go_num, by go_num, rfl, rfl, rfl, b3, HTT, H3⟩
 case measure => simp [intOf]) : p := h
theorem zq252 {p : Prop} (h : p := by
 rcases Int.emod_two_eq yd with hb | hb
 . have H2 := draw_rd (b := 0) hcl hb hh
   have h1 : bits BinOp.and IntKind.i64 (yd) 1 = 0 := zq41
   have H3 : Hid (acc + (tt * 2) * Pic.draw (Pic.rv s.data.toList i) (yd / 2) y1 y2 im = T) := by simpa using H2
   have b4 : acc < 4294967296 := zq42
   clear hb hh H2 hcl
   go_wp2
   go_round
   case rel => exact ⟨i, acc, tt * 2, yd / 2, y1, y2, by omega, by go_num, by go_num, by go_num, rfl, rfl, rfl, b3, HTT, H3⟩
   case measure => simp [intOf]
 . have H2 := draw_rd (b := 1) hcl hb hh
   have h1 : bits BinOp.and IntKind.i64 (yd) 1 = 1 := zq41
   have H3 : Hid (acc + tt + (tt * 2) * Pic.draw (Pic.rv s.data.toList i) (yd / 2) y1 y2 im = T) := by simpa using H2
   have b4 : acc + tt < 4294967296 := zq42
   clear hb hh H2 hcl
   go_wp2
   go_round
   case rel => exact ⟨i, acc + tt, tt * 2, yd / 2, y1, y2, by omega, by go_num, by go_num, by go_num, rfl, rfl, rfl, b3, HTT, H3⟩
   case measure => simp [intOf]) : p := h
theorem zq253 {p : Prop} (h : p := by
 go_wp2
 go_ret
 exact ⟨by rw [h2, h4]; rfl, (((Below.refl _ _).alloc (Nat.le_refl _) _).alloc (by simp) _).alloc (by simp; omega) _⟩) : p := h
theorem zq254 {p : Prop} (h : p := by
 go_wp2
 go_ret
 exact ⟨by rw [h2]; rfl, ((Below.refl _ _).alloc (Nat.le_refl _) _).alloc (by simp) _⟩) : p := h
theorem zq255 {p : Prop} (h : p := by
 go_wp2
 go_ret
 exact ⟨by simp [hb0, hb1, hb2, hb3, hb4], hro.below⟩) : p := h
theorem zq256 {p : Prop} (h : p := by
 go_enter func136, ntmps136
 go_wp2
 go_ret
 exact ⟨congrArg (fun z => Ending.returned (Value.int .i64 z)) (by unfold sizeOf; rw [if_pos (by omega)]), rfl⟩) : p := h
theorem zq257 {p : Prop} (h : p := by
 go_enter func137, ntmps137
 exact zq195) : p := h
theorem zq258 {p : Prop} (h : p := by
 go_enter func141, ntmps141
 go_wp2
 go_ret
 exact ⟨rfl, ((Below.refl _ _).alloc (Nat.le_refl _) _).alloc (by simp) _⟩) : p := h
theorem zq259 {p : Prop} (h : p := by
 go_wp2
 go_roundw
 case rel => exact ⟨n + 1, st, by omega, by omega, by go_num, rfl, rfl, hz.alloc _, by rw [show C + 1 - (n + 1) = C - n by omega]; exact hsc⟩
 case measure => exact zq191) : p := h
theorem zq260 {p : Prop} (h : p := by exact ⟨n + 1, some W, by omega, by omega, by go_num, rfl, rfl, hz, by rw [show C + 1 - (n + 1) = C - n by omega]; exact hsc⟩) : p := h
theorem zq261 {p : Prop} (h : p := by
 have HT : Hid (T = true) := by rw [hT]; show _ = _; simp
 clear hT
 exact zq262) : p := h
theorem zq262 {p : Prop} (h : p := by
 go_enter func134, ntmps134
 exact zq230) : p := h
theorem zq263 {p : Prop} (h : p := by
 go_enter func84, ntmps84
 go_wp2_with fail
 go_ret
 exact ⟨ret_intE (by rw [HT2.out]), (Kept.refl _ _).alloc _⟩) : p := h
theorem zq264 {p : Prop} (h : p := by
 go_wp2_with fail
 go_ret
 exact ⟨rfl, ((Kept.refl _ _).alloc _).drewN _⟩) : p := h
theorem zq265 {p : Prop} (h : p := by go_ret; exact ⟨ret_boolE (by simp only [holds]; rw [Bool.eq_iff_iff]; simp; omega), (Kept.refl _ _).alloc _⟩) : p := h
theorem zq266 {p : Prop} (h : p := by
 refine (s1.out _).mono ?_
 rintro o w1 ⟨rfl, rfl⟩
 go_wp2_with fail
 refine (s2.out _).mono ?_
 rintro o w1 ⟨rfl, rfl⟩
 go_wp2_with fail
 exact zq267) : p := h
theorem zq267 {p : Prop} (h : p := by go_ret; exact ⟨ret_boolE (by simp [holds]), (Kept.refl _ _).alloc _⟩) : p := h
theorem zq268 {p : Prop} (h : p := by
 go_quiet ((go_at_call 135; exact Calls.quiet_of_same (WD.out _)))
 exact zq264) : p := h
theorem zq269 {p : Prop} (h : p := by
 go_wp2_with fail
 exact zq458) : p := h
theorem zq270 {p : Prop} (h : p := by
 unfold niV
 obtain ⟨op, rd, rs1, rs2, im, ln⟩ := i
 dsimp only at *
 have IB : Hid (∀ W, CS 192 #[.int .i64 op] (.bool false) W) := zq50
 subst hop
 clear hw
 go_enter func132, ntmps132
 go_wp2_with (first | (go_at_call 192; refine (IB.out _).mono ?_; rintro o w2 ⟨rfl, rfl⟩))
 exact zq247) : p := h
theorem zq271 {p : Prop} (h : p := by repeat (first | (with_reducible exact Kept.refl _ _) | (with_reducible refine Kept.setCell ?_ (Or.inr zq492) _) | (with_reducible refine Kept.drew ?_) | (with_reducible refine Kept.drewN ?_ _) | (with_reducible refine Kept.alloc ?_ _) | (with_reducible refine Kept.trans ?_ (hk2.mono (by simp))) | (with_reducible refine Kept.trans ?_ (hk1.mono (by simp))))) : p := h
theorem zq272 {p : Prop} (h : p := by
 have hlt := hw.out.lt
 have hlt' : ¬ mb = w.heap.size := by omega
 have c33 := hw.out.c33
 have hpc := hX.pc
 have i0 := hi.im0
 have i1 := hi.im1
 have ha := hX.xr i.rs1
 have hb := hX.xr i.rs2
 have A1 := hide1 (fun W h => x_register mb rb X i.rs1 hi.rs1 W h)
 have A2 := hide1 (fun W h => x_register mb rb X i.rs2 hi.rs2 W h)
 have BH := hide1 (fun W h => x_behind mb rb X hX.pc i hi W h)
 have hwa : Hid (XAt (w.alloc (niC i)) mb rb X) := zq10
 obtain ⟨a, hae⟩ := zn1 (X.x.getD i.rs1 0)
 obtain ⟨b, hbe⟩ := zn1 (X.x.getD i.rs2 0)
 simp only [<- hae] at ha A1 |-
 simp only [<- hbe] at hb A2 |-
 obtain ⟨bh, hbh⟩ := zn1 (behD X.pc i)
 simp only [<- hbh] at BH |-
 unfold niC at hwa
 unfold niV at BH |-
 obtain ⟨op, rd, rs1, rs2, im, ln⟩ := i
 dsimp only at *
 subst hop
 clear hw hX hi hae hbe hbh
 go_enter func196, ntmps196
 go_wp2_with fail
 refine (A1.out _ hwa).mono ?_
 rintro o w1 ⟨rfl, rfl⟩
 go_wp2_with fail
 refine (BH.out _ hwa).mono ?_
 rintro o w2 ⟨rfl, hk1⟩
 exact zq269) : p := h
theorem zq273 {p : Prop} (h : p := by repeat (first | (with_reducible exact Kept.refl _ _) | (with_reducible refine Kept.setCell ?_ (Or.inl (by simp)) _) | (with_reducible refine Kept.drew ?_) | (with_reducible refine Kept.drewN ?_ _) | (with_reducible refine Kept.alloc ?_ _))) : p := h
theorem zq274 {p : Prop} (h : p := by repeat (first | (with_reducible exact Kept.refl _ _) | (with_reducible refine Kept.setCell ?_ (Or.inr zq492) _) | (with_reducible refine Kept.drew ?_) | (with_reducible refine Kept.drewN ?_ _) | (with_reducible refine Kept.alloc ?_ _) | (with_reducible refine Kept.trans ?_ (hk1.mono (by simp))))) : p := h
theorem zq275 {p : Prop} (h : p := by
 obtain ⟨ic0w3, ic1w3, ic2w3, ic3w3, ic4w3, ic5w3, ifw3, izw3, izw31, inw31, izw32, inw32, izw33, inw33, izw34, inw34⟩ : Zc6 w3 w.heap.size op rd rs1 rs2 im ln := zq163
 obtain ⟨rc0w3, rc1w3, rfw3, rzw3, rzw31, rnw31, rzw32, rnw32, rzw33, rnw33, rzw34, rnw34⟩ : Zc2 w3 (w.heap.size + 1) 0 0 := zq164
 obtain ⟨fc0w3, fc1w3, ffw3, fzw3, fzw31, fnw31, fzw32, fnw32, fzw33, fnw33, fzw34, fnw34⟩ : Zc2 w3 w1.heap.size pa1 n1 := zq164
 go_wp2_with fail
 exact zq459) : p := h
theorem zq276 {p : Prop} (h : p := by
 clear hs
 go_enter func199, ntmps199
 go_upto_region 1 with fail
 go_quiet ((first | (go_at_call 39; first | exact Calls.quiet_of_same (A1.out _ hwa) | exact Calls.quiet_of_same (A1.out _ (hide1 (hwa.out.drewN _))) | exact Calls.quiet_of_same (A1.out _ (hide1 hwa.out.drew))) | (go_at_call 135; exact Calls.quiet_of_same (WD.out _))))
 go_wp2_with (go_at_call 268; refine (AS.out _).mono ?_; rintro o w2 ⟨rfl, rfl⟩)
 refine (RE.out _ (hide1 (hwa.out.drewN _))).mono ?_
 rintro o w1 ⟨rfl, hx1, hk1⟩
 obtain ⟨ic0w1, ic1w1, ic2w1, ic3w1, ic4w1, ic5w1, ifw1, izw1, izw11, inw11, izw12, inw12, izw13, inw13, izw14, inw14⟩ : Zc6 w1 w.heap.size op rd rs1 rs2 im ln := zq157
 obtain ⟨rc0w1, rc1w1, rfw1, rzw1, rzw11, rnw11, rzw12, rnw12, rzw13, rnw13, rzw14, rnw14⟩ : Zc2 w1 (w.heap.size + 1) 0 0 := zq158
 have hx1a := hide1 ((((hx1.alloc (.cells #[.int .i64 pa1, .int .i64 n1] 231)).alloc (.cells #[.int .i64 pa2, .int .i64 0] 231)).alloc (.cells #[.int .i64 (-1), .int .i64 0] 118)).alloc (.cells #[.int .i64 (-1), .int .i64 0] 118))
 go_wp2_with (first | (go_at_call 82; refine (x_none _ _ _).mono ?_; rintro o wn ⟨rfl, rfl⟩))
 refine (R1.out _ hx1a).mono ?_
 rintro o w2 ⟨rfl, hx2, hk2⟩
 obtain ⟨ic0w2, ic1w2, ic2w2, ic3w2, ic4w2, ic5w2, ifw2, izw2, izw21, inw21, izw22, inw22, izw23, inw23, izw24, inw24⟩ : Zc6 w2 w.heap.size op rd rs1 rs2 im ln := zq159
 obtain ⟨rc0w2, rc1w2, rfw2, rzw2, rzw21, rnw21, rzw22, rnw22, rzw23, rnw23, rzw24, rnw24⟩ : Zc2 w2 (w.heap.size + 1) 0 0 := zq160
 obtain ⟨fc0w2, fc1w2, ffw2, fzw2, fzw21, fnw21, fzw22, fnw22, fzw23, fnw23, fzw24, fnw24⟩ : Zc2 w2 w1.heap.size pa1 n1 := zq161
 obtain ⟨sc0w2, sc1w2, sfw2, szw2, szw21, snw21, szw22, snw22, szw23, snw23, szw24, snw24⟩ : Zc2 w2 (w1.heap.size + 1) pa2 0 := zq162
 go_wp2_with fail
 refine (x_read_0 mb pa2 _).mono ?_
 rintro o w3 ⟨rfl, hk3⟩
 have hx3 := hx2.kept hk3
 exact zq460) : p := h
theorem zq277 {p : Prop} (h : p := by
 clear hs
 go_enter func199, ntmps199
 go_upto_region 1 with fail
 go_quiet ((first | (go_at_call 39; first | exact Calls.quiet_of_same (A1.out _ hwa) | exact Calls.quiet_of_same (A1.out _ (hide1 (hwa.out.drewN _))) | exact Calls.quiet_of_same (A1.out _ (hide1 hwa.out.drew))) | (go_at_call 135; exact Calls.quiet_of_same (WD.out _))))
 go_wp2_with (go_at_call 268; refine (AS.out _).mono ?_; rintro o w2 ⟨rfl, rfl⟩)
 refine (RE.out _ (hide1 (hwa.out.drewN _))).mono ?_
 rintro o w1 ⟨rfl, hx1, hk1⟩
 obtain ⟨ic0w1, ic1w1, ic2w1, ic3w1, ic4w1, ic5w1, ifw1, izw1, izw11, inw11, izw12, inw12, izw13, inw13, izw14, inw14⟩ : Zc6 w1 w.heap.size op rd rs1 rs2 im ln := zq157
 obtain ⟨rc0w1, rc1w1, rfw1, rzw1, rzw11, rnw11, rzw12, rnw12, rzw13, rnw13, rzw14, rnw14⟩ : Zc2 w1 (w.heap.size + 1) 0 0 := zq158
 have hx1a := hide1 ((((hx1.alloc (.cells #[.int .i64 pa1, .int .i64 n1] 231)).alloc (.cells #[.int .i64 pa2, .int .i64 n2] 231)).alloc (.cells #[.int .i64 (-1), .int .i64 0] 118)).alloc (.cells #[.int .i64 (-1), .int .i64 0] 118))
 go_wp2_with (first | (go_at_call 82; refine (x_none _ _ _).mono ?_; rintro o wn ⟨rfl, rfl⟩))
 refine (R1.out _ hx1a).mono ?_
 rintro o w2 ⟨rfl, hx2, hk2⟩
 obtain ⟨ic0w2, ic1w2, ic2w2, ic3w2, ic4w2, ic5w2, ifw2, izw2, izw21, inw21, izw22, inw22, izw23, inw23, izw24, inw24⟩ : Zc6 w2 w.heap.size op rd rs1 rs2 im ln := zq159
 obtain ⟨rc0w2, rc1w2, rfw2, rzw2, rzw21, rnw21, rzw22, rnw22, rzw23, rnw23, rzw24, rnw24⟩ : Zc2 w2 (w.heap.size + 1) 0 0 := zq160
 obtain ⟨fc0w2, fc1w2, ffw2, fzw2, fzw21, fnw21, fzw22, fnw22, fzw23, fnw23, fzw24, fnw24⟩ : Zc2 w2 w1.heap.size pa1 n1 := zq161
 obtain ⟨sc0w2, sc1w2, sfw2, szw2, szw21, snw21, szw22, snw22, szw23, snw23, szw24, snw24⟩ : Zc2 w2 (w1.heap.size + 1) pa2 n2 := zq162
 go_wp2_with fail
 refine (R2.out _ (hide1 hx2)).mono ?_
 rintro o w3 ⟨rfl, hx3, hk3⟩
 exact zq460) : p := h
theorem zq278 {p : Prop} (h : p := by repeat (first | (with_reducible exact Kept.refl _ _) | (with_reducible refine Kept.setM ?_ _ _) | (with_reducible refine Kept.setCell ?_ (Or.inr zq492) _) | (with_reducible refine Kept.drew ?_) | (with_reducible refine Kept.drewN ?_ _) | (with_reducible refine Kept.alloc ?_ _) | (with_reducible refine Kept.trans ?_ (hk3.mono (by simp))) | (with_reducible refine Kept.trans ?_ (hk2.mono (by simp))) | (with_reducible refine Kept.trans ?_ (hk1.mono (by simp))))) : p := h
theorem zq279 {p : Prop} (h : p := by
 rintro o w2 ⟨rfl, hx2, hk2⟩
 go_wp2_with fail
 go_end0
 refine ⟨rfl, hx2, ?_⟩
 exact zq308) : p := h
theorem zq280 {p : Prop} (h : p := by
 clear qs
 go_enter func276, ntmps276
 go_upto_region 5 with fail
 go_region_with (first | (go_at_call 255; refine (OI.out _).mono ?_; rintro o w1 ⟨rfl, rfl⟩) | (go_at_call 197; refine (SR.out _ (hide1 hwa.out.drew)).mono ?_; rintro o w1 ⟨rfl, hx1, hk1⟩))
 all_goals
  go_wp2_with fail
  refine (UR.out _ (hide1 hx1)).mono ?_
  rintro o w2 ⟨rfl, hx2, hk2⟩
  go_wp2_with fail
  go_end0
  refine ⟨rfl, hx2, ?_⟩
  repeat (first | (with_reducible exact Kept.refl _ _) | (with_reducible refine Kept.setM ?_ _ _) | (with_reducible refine Kept.setCell ?_ (Or.inr zq492) _) | (with_reducible refine Kept.drew ?_) | (with_reducible refine Kept.drewN ?_ _) | (with_reducible refine Kept.alloc ?_ _) | (with_reducible refine Kept.trans ?_ (hk2.mono (by simp))) | (with_reducible refine Kept.trans ?_ (hk1.mono (by simp))))) : p := h
theorem zq281 {p : Prop} (h : p := by
 refine bodyPost_ret (v := .agg #[.int .i64 c, .int .i64 a]) (by simp [results, results201, go_sem, rc0w1, rc1w1, rzw1, rzw11, rnw11, rzw12, rnw12, rzw13, rnw13, rzw14, rnw14, Nat.ne_of_lt, Nat.ne_of_gt]) rfl ⟨rfl, hx1.box (w.heap.size + 1) ?_ (by omega) (by omega), ?_⟩
 . exact zq273
 . exact zq274) : p := h
theorem zq282 {p : Prop} (h : p := by
 obtain ⟨rc0w1, rc1w1, rfw1, rzw1, rzw11, rnw11, rzw12, rnw12, rzw13, rnw13, rzw14, rnw14⟩ : Zc2 w1 (w.heap.size + 1) 0 0 := zq167
 have hx2 := hide1 ((hx1.alloc (.cells #[.int .i64 (-1), .int .i64 0] 118)).alloc (.cells #[.int .i64 (-1), .int .i64 0] 118))
 go_wp2_with (first | (go_at_call 82; refine (x_none _ _ _).mono ?_; rintro o wn ⟨rfl, rfl⟩) | (go_at_call 261; refine (IR.out _ hx2).mono ?_; rintro o w5 ⟨rfl, rfl⟩))
 refine (DO.out _ hx2).mono ?_
 rintro o w2 ⟨rfl, hx3, hk2⟩
 obtain ⟨rc0w2, rc1w2, rfw2, rzw2, rzw21, rnw21, rzw22, rnw22, rzw23, rnw23, rzw24, rnw24⟩ : Zc2 w2 (w.heap.size + 1) 0 0 := zq169
 obtain ⟨mc0w2, mc1w2, mfw2, mzw2, mzw21, mnw21, mzw22, mnw22, mzw23, mnw23, mzw24, mnw24⟩ : Zc2 w2 w1.heap.size (-1) 0 := zq170
 go_wp2_with fail
 refine bodyPost_ret (v := .agg #[.int .i64 (-1), .int .i64 0]) (by simp [results, results201, go_sem, rc0w2, rc1w2, rzw2, rzw21, rnw21, rzw22, rnw22, rzw23, rnw23, rzw24, rnw24, Nat.ne_of_lt, Nat.ne_of_gt]) rfl ⟨rfl, hx3.box (w.heap.size + 1) ?_ (by omega) (by omega), ?_⟩
 . exact zq273
 . exact zq308) : p := h
theorem zq283 {p : Prop} (h : p := by
 clear hX hw
 exact zq285) : p := h
theorem zq284 {p : Prop} (h : p := by
 have hlt := hw.out.lt
 have hlt' : ¬ mb = w.heap.size := by omega
 have HR := hide1 (csL_at hw.out)
 obtain ⟨cs, hcs⟩ := zn1 (csL X)
 rw [<- hcs] at HR
 have HCS := hide1 hcs
 have hsz : cs.toArray.size = 23 := zq87
 clear hcs
 exact zq283) : p := h
theorem zq285 {p : Prop} (h : p := by
 go_enter func304, ntmps304
 exact zq461) : p := h
theorem zq286 {p : Prop} (h : p := by
 have hlt := hw.out.lt
 have hlt' : ¬ mb = w.heap.size := by omega
 have HR := hide1 (csL_at hw.out)
 obtain ⟨cs, hcs⟩ := zn1 (csL X)
 rw [<- hcs] at HR
 have HCS := hide1 hcs
 have hsz : cs.toArray.size = 23 := zq87
 clear hcs
 clear hX hw
 go_enter func305, ntmps305
 exact zq461) : p := h
theorem zq287 {p : Prop} (h : p := by
 clear hT
 go_enter func305, ntmps305
 go_upto_region 1 with fail
 refine wp_region_lit ?_
 refine wpList_plain rfl (fun K hK => ?_)
 go_simp
 refine hK _ _ ?_
 clear hK K
 refine wpList_plain rfl (fun K hK => ?_)
 go_simp
 refine hK _ _ ?_
 clear hK K
 refine wpList_plain rfl (fun K hK => ?_)
 go_simp
 refine hK _ _ ?_
 clear hK K
 refine wpList_load_mid rfl _ _ rfl mb 38 (by rfl) cs _ HR.out Tryz.underlying71 rfl zq519 ?_
 refine wpList_plain rfl (fun K hK => ?_)
 go_simp
 refine hK _ _ ?_
 clear hK K
 refine wpList_store_mid rfl _ _ _ rfl w.heap.size 0 cs.toArray rfl rfl zq520 zq521 zq522 ?_
 obtain ⟨w2, hw2, hr2, hk2⟩ := copy_box w (#[.int .i64 0, .int .i64 0, .int .i64 0, .int .i64 0, .int .i64 0, .int .i64 0, .int .i64 0, .int .i64 0, .int .i64 0, .int .i64 0, .int .i64 0, .int .i64 0, .int .i64 0, .int .i64 0, .int .i64 0, .int .i64 0, .int .i64 0, .int .i64 0, .int .i64 0, .int .i64 0, .int .i64 0, .int .i64 0, .int .i64 0]) 71 cs.toArray hsz
 rw [<- hw2]
 have hz2 : w.heap.size < w2.heap.size := zq88
 clear hw2
 have d0 : w2.cell? ⟨w.heap.size, 0, none⟩ = some (.int .i64 X.c.mstatus) := zq89
 have d1 : w2.cell? ⟨w.heap.size, 1, none⟩ = some (.int .i64 X.c.medeleg) := zq90
 have d2 : w2.cell? ⟨w.heap.size, 2, none⟩ = some (.int .i64 X.c.mideleg) := zq91
 have d3 : w2.cell? ⟨w.heap.size, 3, none⟩ = some (.int .i64 X.c.mie) := zq92
 have d4 : w2.cell? ⟨w.heap.size, 4, none⟩ = some (.int .i64 X.c.mip) := zq93
 have d5 : w2.cell? ⟨w.heap.size, 5, none⟩ = some (.int .i64 X.c.mtvec) := zq94
 have d6 : w2.cell? ⟨w.heap.size, 6, none⟩ = some (.int .i64 X.c.mcen) := zq95
 have d7 : w2.cell? ⟨w.heap.size, 7, none⟩ = some (.int .i64 X.c.minh) := zq96
 have d8 : w2.cell? ⟨w.heap.size, 8, none⟩ = some (.int .i64 X.c.mscratch) := zq97
 have d9 : w2.cell? ⟨w.heap.size, 9, none⟩ = some (.int .i64 X.c.mepc) := zq98
 have d10 : w2.cell? ⟨w.heap.size, 10, none⟩ = some (.int .i64 X.c.mcause) := zq99
 have d11 : w2.cell? ⟨w.heap.size, 11, none⟩ = some (.int .i64 X.c.mtval) := zq100
 have d12 : w2.cell? ⟨w.heap.size, 12, none⟩ = some (.int .i64 X.c.stvec) := zq101
 have d13 : w2.cell? ⟨w.heap.size, 13, none⟩ = some (.int .i64 X.c.scen) := zq102
 have d14 : w2.cell? ⟨w.heap.size, 14, none⟩ = some (.int .i64 X.c.sscratch) := zq103
 have d15 : w2.cell? ⟨w.heap.size, 15, none⟩ = some (.int .i64 X.c.sepc) := zq104
 have d16 : w2.cell? ⟨w.heap.size, 16, none⟩ = some (.int .i64 X.c.scause) := zq105
 have d17 : w2.cell? ⟨w.heap.size, 17, none⟩ = some (.int .i64 X.c.stval) := zq106
 have d18 : w2.cell? ⟨w.heap.size, 18, none⟩ = some (.int .i64 X.c.satp) := zq107
 have d19 : w2.cell? ⟨w.heap.size, 19, none⟩ = some (.int .i64 X.c.cyc) := zq108
 have d20 : w2.cell? ⟨w.heap.size, 20, none⟩ = some (.int .i64 X.c.cych) := zq109
 have d21 : w2.cell? ⟨w.heap.size, 21, none⟩ = some (.int .i64 X.c.ret) := zq110
 have d22 : w2.cell? ⟨w.heap.size, 22, none⟩ = some (.int .i64 X.c.reth) := zq111
 clear hr2
 refine wpList_nil ?_
 go_wp2_with fail
 go_ret2
 exact ⟨by rw [HT.out] <;> rfl, hk2⟩) : p := h
theorem zq288 {p : Prop} (h : p := by
 clear ht
 exact zq290) : p := h
theorem zq289 {p : Prop} (h : p := by
 have a0 : ((k : Int) == 0) = false := by simp; omega
 have a1 : ((k : Int) == 1) = false := by simp; omega
 have a2 : ((k : Int) == 2) = false := by simp; omega
 have b0 : (k == 0) = false := by simp; omega
 have b1 : (k == 1) = false := by simp; omega
 have b2 : (k == 2) = false := by simp; omega
 clear k0 k1 k2
 exact zq290) : p := h
theorem zq290 {p : Prop} (h : p := by
 go_enter func306, ntmps306
 exact zq462) : p := h
theorem zq291 {p : Prop} (h : p := by
 rw [if_pos ⟨rfl, h3⟩]
 have q3 : decide ((n : Int) < 3072) = true := by simp; omega
 have q3' : decide (n < 3072) = true := by simp; omega
 exact zq463) : p := h
theorem zq292 {p : Prop} (h : p := by
 have q3 : decide ((n : Int) < 3072) = false := by simp; omega
 have q3' : decide (n < 3072) = false := by simp; omega
 exact zq463) : p := h
theorem zq293 {p : Prop} (h : p := by
 go_ret2
 exact ⟨rfl, hk1⟩) : p := h
theorem zq294 {p : Prop} (h : p := by
 go_end0
 exact ⟨rfl, hw.out.set 38 _ rfl rfl (by omega), (Kept.refl _ _).setCell (.inl (by simp)) _⟩) : p := h
theorem zq295 {p : Prop} (h : p := by
 go_wp2_with fail
 go_end0
 exact ⟨rfl, rfl⟩) : p := h
theorem zq296 {p : Prop} (h : p := by
 rintro o w1 ⟨rfl, rfl⟩
 exact ⟨rfl, hw.out, Kept.refl _ _⟩) : p := h
theorem zq297 {p : Prop} (h : p := by
 skip
 clear hw hX hi hR hY hcl hol hop hwr hlo hmip
 go_enter func203, ntmps203
 go_wp2_with (go_at_call 39; refine (A1.out _ hwa).mono ?_; rintro o w5 ⟨rfl, rfl⟩)
 refine (RC.out _ hwa).mono ?_
 rintro o w1 ⟨rfl, hk1⟩
 have hx1 := hide1 (hwa.out.kept hk1)
 obtain ⟨ic0w1, ic1w1, ic2w1, ic3w1, ic4w1, ic5w1, ifw1, izw1, izw11, inw11, izw12, inw12, izw13, inw13, izw14, inw14⟩ : Zc6 w1 w.heap.size op rd rs1 rs2 im ln := zq166
 go_wp2_with fail
 refine (SR.out _ hx1).mono ?_
 rintro o w2 ⟨rfl, hx2, hk2⟩
 obtain ⟨ic0w2, ic1w2, ic2w2, ic3w2, ic4w2, ic5w2, ifw2, izw2, izw21, inw21, izw22, inw22, izw23, inw23, izw24, inw24⟩ : Zc6 w2 w.heap.size op rd rs1 rs2 im ln := zq171
 go_wp2_with (go_at_call 134; refine (WC.out _).mono ?_; rintro o w5 ⟨rfl, rfl⟩)
 refine bodyPost_ret (results_none rfl _ _ _) rfl ?_
 refine ⟨rfl, hx2.alloc _, ?_⟩
 exact zq308) : p := h
theorem zq298 {p : Prop} (h : p := by
 have qm : (im == 836) = false := by simp [hm]
 exact zq464) : p := h
theorem zq299 {p : Prop} (h : p := by
 have qm : (im == 836) = true := by simp [hm]
 exact zq464) : p := h
theorem zq300 {p : Prop} (h : p := by
 go_ret
 exact ⟨rfl, Kept.refl _ _⟩) : p := h
theorem zq301 {p : Prop} (h : p := by
 go_wp2_with fail
 go_ret
 exact ⟨rfl, Kept.refl _ _⟩) : p := h
theorem zq302 {p : Prop} (h : p := by
 go_enter func204, ntmps204
 go_wp2_with fail
 go_ret
 exact ⟨rfl, Kept.refl _ _⟩) : p := h
theorem zq303 {p : Prop} (h : p := by
 refine (UR.out _ (hide1 ((hw.out.set (X' := { X with mode := m }) 34 _ rfl rfl (by omega)).set 38 _ rfl rfl (by omega)))).mono ?_
 rintro o w1 ⟨rfl, hx1, hk1⟩
 go_wp2_with fail
 go_end0
 refine ⟨rfl, hx1, ?_⟩
 exact zq310) : p := h
theorem zq304 {p : Prop} (h : p := by repeat (first | (with_reducible exact Kept.refl _ _) | (with_reducible refine Kept.setM ?_ _ _) | (with_reducible refine Kept.setCell ?_ (Or.inr zq492) _) | (with_reducible refine Kept.drew ?_) | (with_reducible refine Kept.drewN ?_ _) | (with_reducible refine Kept.alloc ?_ _))) : p := h
theorem zq305 {p : Prop} (h : p := by exact ⟨rfl, hx2, (Kept.trans (((Kept.refl _ _).alloc _).drewN _) (hk2.mono (by simp)))⟩) : p := h
theorem zq306 {p : Prop} (h : p := by
 go_enter func38, ntmps38
 go_wp2_with fail
 all_goals
  go_end0
  refine ⟨rfl, ?_, ?_⟩
  . first | exact hw.out | exact hw.out.drew | exact hw.out.drew.drew
  . exact zq304) : p := h
theorem zq307 {p : Prop} (h : p := by
 go_enter func38, ntmps38
 go_wp2_with (go_at_call 85; refine (P1.out _).mono ?_; rintro o w1 ⟨rfl, hk1⟩; have hx1 := hide1 (hw.out.kept (Kept.trans zq523 hk1)); have d57 := hx1.out.c57; have d58 := hx1.out.c58; have d59 := hx1.out.c59; have d60 := hx1.out.c60; have dfr := hx1.out.fro)
 all_goals
  go_end0
  refine ⟨rfl, ?_, ?_⟩
  . first | exact ((hx1.out.set (X' := { X with c := { X.c with cyc := u1 } }) 57 _ rfl rfl (by omega)).set (X' := { X with c := { X.c with cyc := u1, cych := v1 } }) 58 _ rfl rfl (by omega)) | exact ((hx1.out.set (X' := { X with c := { X.c with cyc := u1 } }) 57 _ rfl rfl (by omega)).set (X' := { X with c := { X.c with cyc := u1, cych := v1 } }) 58 _ rfl rfl (by omega)).drew | exact ((hx1.out.set (X' := { X with c := { X.c with cyc := u1 } }) 57 _ rfl rfl (by omega)).set (X' := { X with c := { X.c with cyc := u1, cych := v1 } }) 58 _ rfl rfl (by omega)).drew.drew
  . exact zq310) : p := h
theorem zq308 {p : Prop} (h : p := by repeat (first | (with_reducible exact Kept.refl _ _) | (with_reducible refine Kept.setM ?_ _ _) | (with_reducible refine Kept.setCell ?_ (Or.inr zq492) _) | (with_reducible refine Kept.drew ?_) | (with_reducible refine Kept.drewN ?_ _) | (with_reducible refine Kept.alloc ?_ _) | (with_reducible refine Kept.trans ?_ (hk2.mono (by simp))) | (with_reducible refine Kept.trans ?_ (hk1.mono (by simp))))) : p := h
theorem zq309 {p : Prop} (h : p := by
 clear h
 go_enter func68, ntmps68
 exact zq210) : p := h
theorem zq310 {p : Prop} (h : p := by repeat (first | (with_reducible exact Kept.refl _ _) | (with_reducible refine Kept.setM ?_ _ _) | (with_reducible refine Kept.setCell ?_ (Or.inr zq492) _) | (with_reducible refine Kept.drew ?_) | (with_reducible refine Kept.drewN ?_ _) | (with_reducible refine Kept.alloc ?_ _) | (with_reducible refine Kept.trans ?_ (hk1.mono (by simp))))) : p := h
theorem zq311 {p : Prop} (h : p := by (go_wp2_with (first | (go_at_call 134; refine (WC.out _).mono ?_; rintro o w5 ⟨rfl, rfl⟩) | (go_at_call 278; refine (MR.out _ (hide1 (by first | exact hx1.out | exact hx1.out.alloc _))).mono ?_; rintro o w2 ⟨rfl, hk2⟩)); go_ret; refine ⟨rfl, ?_⟩; repeat (first | (with_reducible exact HK.out) | (with_reducible exact hk2) | (with_reducible refine Kept.trans ?_ hk2) | (with_reducible refine Kept.alloc ?_ _) | (with_reducible exact Kept.refl _ _)))) : p := h
theorem zq312 {p : Prop} (h : p := by
 cases t4
 . exact zq465
 . cases t5
   . exact zq465
   . exact zq311) : p := h
theorem zq313 {p : Prop} (h : p := by
 have ql18 : decide (op <= 18) = true := by simp; omega
 exact zq314) : p := h
theorem zq314 {p : Prop} (h : p := by
 have ql60 : decide (op <= 60) = true := by simp; omega
 exact zq466) : p := h
theorem zq315 {p : Prop} (h : p := by repeat (first | (with_reducible exact hw.out) | (with_reducible refine XAt.alloc ?_ _))) : p := h
theorem zq316 {p : Prop} (h : p := by repeat (first | (with_reducible exact Kept.refl _ _) | (with_reducible refine Kept.setCell ?_ (Or.inr zq492) _) | (with_reducible refine Kept.drew ?_) | (with_reducible refine Kept.drewN ?_ _) | (with_reducible refine Kept.alloc ?_ _))) : p := h
theorem zq317 {p : Prop} (h : p := by
 clear hX hi
 exact zq467) : p := h
theorem zq318 {p : Prop} (h : p := by
 have hlt := hw.out.lt
 have hrlt := hw.out.rlt
 have hlt' : ¬ mb = w.heap.size := by omega
 have hlt2 : ¬ mb = w.heap.size + 1 := by omega
 have c33 := hw.out.c33
 have c34 := hw.out.c34
 have hwa : Hid (XAt ((w.alloc (niC i)).alloc (.cells #[.int .i64 0, .int .i64 0] 118)) mb rb X) := zq22
 have HR := hide1 (fun W => x_hasResult i.op W)
 have IB := hide1 (fun W => x_isBranch i.op W)
 simp only [show xresD i.op = false by unfold xresD; simp; omega, show decide (5 <= i.op /\ i.op <= 10) = false by simp; omega] at HR IB
 unfold niC at hwa
 unfold niV excA
 obtain ⟨op, rd, rs1, rs2, im, ln⟩ := i
 dsimp only at *
 subst hop
 exact zq317) : p := h
theorem zq319 {p : Prop} (h : p := by
 have qe38 : (op == 38) = false := by simp; omega
 have qe39 : (op == 39) = false := by simp; omega
 have qe40 : (op == 40) = false := by simp; omega
 have qe41 : (op == 41) = false := by simp; omega
 clear hX hi
 go_enter func133, ntmps133
 go_wp2_with (first | (go_at_call 195; refine (HR.out _).mono ?_; rintro o w5 ⟨rfl, rfl⟩) | (go_at_call 192; refine (IB.out _).mono ?_; rintro o w5 ⟨rfl, rfl⟩))
 refine bodyPost_ret (v := .agg #[.int .i64 2, .int .i64 v]) zq524 rfl ⟨rfl, ?_, ?_⟩
 . exact zq315
 . exact zq316) : p := h
theorem zq320 {p : Prop} (h : p := by
 go_enter func133, ntmps133
 exact zq468) : p := h
theorem zq321 {p : Prop} (h : p := by
 have ql70 : decide (op <= 70) = true := by simp; omega
 have qe38 : (op == 38) = false := by simp; omega
 have qe39 : (op == 39) = false := by simp; omega
 have qe40 : (op == 40) = false := by simp; omega
 have qe41 : (op == 41) = false := by simp; omega
 clear hX hi hY hw
 exact zq320) : p := h
theorem zq322 {p : Prop} (h : p := by
 have ql70 : decide (op <= 70) = true := by simp; omega
 have qe38 : (op == 38) = false := by simp; omega
 have qe39 : (op == 39) = false := by simp; omega
 have qe40 : (op == 40) = false := by simp; omega
 have qe41 : (op == 41) = false := by simp; omega
 clear hX hi hw hm
 go_enter func133, ntmps133
 go_wp2_with (first | (go_at_call 195; refine (HR.out _).mono ?_; rintro o w5 ⟨rfl, rfl⟩) | (go_at_call 192; refine (IB.out _).mono ?_; rintro o w5 ⟨rfl, rfl⟩))
 refine (RS.out _ hwa).mono ?_
 rintro o w1 ⟨rfl, hk1⟩
 have hx1 := hwa.out.kept hk1
 obtain ⟨ic0w1, ic1w1, ic2w1, ic3w1, ic4w1, ic5w1, ifw1, izw1, izw11, inw11, izw12, inw12, izw13, inw13, izw14, inw14⟩ : Zc6 w1 w.heap.size op rd rs1 rs2 im ln := zq168
 obtain ⟨rc0w1, rc1w1, rfw1, rzw1, rzw11, rnw11, rzw12, rnw12, rzw13, rnw13, rzw14, rnw14⟩ : Zc2 w1 (w.heap.size + 1) 0 0 := zq167
 go_wp2_with fail
 refine bodyPost_ret (v := .agg #[.int .i64 2, .int .i64 v]) zq555 rfl ⟨rfl, hx1.box (w.heap.size + 1) ?_ (by omega) (by omega), ?_⟩
 . exact zq273
 . exact zq274) : p := h
theorem zq323 {p : Prop} (h : p := by
 clear h
 go_enter func25, ntmps25
 exact zq341) : p := h
theorem zq324 {p : Prop} (h : p := by
 go_ret2
 exact ⟨rfl, rfl⟩) : p := h
theorem zq325 {p : Prop} (h : p := by
 go_enter func144, ntmps144
 go_wp2_with (go_at_call 217; refine RC.out.mono ?_; rintro o w1 ⟨rfl, hk1⟩)
 go_ret2
 exact ⟨rfl, hk1⟩) : p := h
theorem zq326 {p : Prop} (h : p := by
 simp only
 split
 . next h3 => rw [if_neg (by omega)]; rw [h3] at h; omega
 . next h3 =>
   split
   . next h0 => rw [h0] at h; omega
   . omega) : p := h
theorem zq327 {p : Prop} (h : p := by
 have a := Pic.sum_le_most (Pic.rv s.data.toList s.size) W
 unfold immOf
 rw [Pic.imm_of]
 split <;> omega) : p := h
theorem zq328 {p : Prop} (h : p := by
 go_enter func111, ntmps111
 exact zq341) : p := h
theorem zq329 {p : Prop} (h : p := by repeat (first | (with_reducible exact hx4) | (with_reducible refine XAt.alloc ?_ _) | (with_reducible refine XAt.drew ?_) | (with_reducible refine XAt.pcS ?_) | (with_reducible refine XAt.other _ _ _ ?_ (by omega) (by omega)))) : p := h
theorem zq330 {p : Prop} (h : p := by repeat (first | (with_reducible exact Kept.refl _ _) | (with_reducible refine Kept.setM ?_ _ _) | (with_reducible refine Kept.setCell ?_ (Or.inr zq492) _) | (with_reducible refine Kept.drew ?_) | (with_reducible refine Kept.drewN ?_ _) | (with_reducible refine Kept.alloc ?_ _) | (with_reducible refine Kept.trans ?_ (hk4.mono (by simp))) | (with_reducible refine Kept.trans ?_ (hk3.mono (by simp))) | (with_reducible refine Kept.trans ?_ (hk2.mono (by simp))) | (with_reducible refine Kept.trans ?_ (hk1.mono (by simp))))) : p := h
theorem zq331 {p : Prop} (h : p := by
 unfold immOf
 rw [Pic.imm_of]
 split <;> omega) : p := h
theorem zq332 {p : Prop} (h : p := by exact ⟨h.withB h1, h2.wh, by dsimp only; omega, by dsimp only; omega⟩) : p := h
theorem zq333 {p : Prop} (h : p := by cases m.testBit k <;> cases a.testBit k <;> rfl) : p := h
theorem zq334 {p : Prop} (h : p := by repeat (first | (with_reducible exact hx2) | (with_reducible refine XAt.alloc ?_ _) | (with_reducible refine XAt.drew ?_) | (with_reducible refine XAt.other _ _ _ ?_ (by omega) (by omega)))) : p := h
theorem zq335 {p : Prop} (h : p := by repeat (first | (with_reducible exact hx4) | (with_reducible refine XAt.alloc ?_ _) | (with_reducible refine XAt.drew ?_) | (with_reducible refine XAt.other _ _ _ ?_ (by omega) (by omega)))) : p := h
theorem zq336 {p : Prop} (h : p := by repeat (first | (with_reducible exact Kept.refl _ _) | (with_reducible refine Kept.setM ?_ _ _) | (with_reducible refine Kept.setCell ?_ (Or.inr zq492) _) | (with_reducible refine Kept.drew ?_) | (with_reducible refine Kept.drewN ?_ _) | (with_reducible refine Kept.alloc ?_ _) | (with_reducible refine Kept.trans ?_ (hk3.mono (by simp))) | (with_reducible refine Kept.trans ?_ (hk2.mono (by simp))) | (with_reducible refine Kept.trans ?_ (hk1.mono (by simp))) | (with_reducible refine Kept.trans ?_ (hk0.mono (by simp))))) : p := h
theorem zq337 {p : Prop} (h : p := by
 clear h
 go_enter func62, ntmps62
 exact zq341) : p := h
theorem zq338 {p : Prop} (h : p := by
 clear h
 go_enter func22, ntmps22
 exact zq341) : p := h
theorem zq339 {p : Prop} (h : p := by
 go_enter func23, ntmps23
 exact zq210) : p := h
theorem zq340 {p : Prop} (h : p := by
 clear h h0
 exact zq339) : p := h
theorem zq341 {p : Prop} (h : p := by
 go_wp2_with fail
 exact zq324) : p := h
theorem zq342 {p : Prop} (h : p := by
 unfold feedU; split
 . dsimp only; omega
 . dsimp only; omega) : p := h
theorem zq343 {p : Prop} (h : p := by
 rintro o w1 ⟨rfl, rfl⟩
 exact zq210) : p := h
theorem zq344 {p : Prop} (h : p := by
 clear h
 go_enter func98, ntmps98
 exact zq210) : p := h
theorem zq345 {p : Prop} (h : p := by
 have hjn : Hid (j < n) := hide1 (by rw [hm] at hj; omega)
 rw [<- hj] at w3
 clear hc hm hlt hge
 refine ⟨j, hjn.out, fun w => ?_⟩
 go_enter func28, ntmps28
 go_wp2_with fail
 go_ret
 exact ⟨by first | rfl | simp [hj], rfl⟩) : p := h
theorem zq346 {p : Prop} (h : p := by
 go_enter func309, ntmps309
 exact zq195) : p := h
theorem zq347 {p : Prop} (h : p := by
 go_ret2
 exact ⟨by rw [HV.out]; rfl, rfl⟩) : p := h
theorem zq348 {p : Prop} (h : p := by exact ⟨by rw [hT.out]; rfl, rfl⟩) : p := h
theorem zq349 {p : Prop} (h : p := by repeat (first | exact Below.refl _ _ | (with_reducible refine Below.setCell ?_ (by simp) _) | (with_reducible refine Below.alloc ?_ (by simp) _))) : p := h
theorem zq350 {p : Prop} (h : p := by
 rintro e w1 ⟨rfl, rfl⟩
 go_wp2
 refine bodyPost_ret (v := insO N G none) zq534 rfl ⟨rfl, ?_⟩
 exact zq349) : p := h
theorem zq351 {p : Prop} (h : p := by
 go_enter func311, ntmps311
 exact zq195) : p := h
theorem zq352 {p : Prop} (h : p := by
 rintro e w1 ⟨rfl, hb1⟩
 rw [<- HO.out]
 have hx := HX.out.more hb1 (by simp)
 have hB := hide1 (HB.out.trans (hb1.mono HB.out.size))
 clear hb1 HX HB HB2 hw2
 have z0 := hx.c0
 have z1 := hx.c1
 have z2 := hx.c2
 have z3 := hx.c3
 have z4 := hx.c4
 have z5 := hx.c5
 have z6 := hx.c6
 have z7 := hx.c7
 have zf := hx.fro
 have zl := hx.lt
 clear hx
 cases O with
 | none =>
  unfold insO lnA ins0
  go_wp2
  refine bodyPost_ret (v := insO N G none) zq556 rfl ⟨by first | rfl | simp [lnO, lnA], ?_⟩
  repeat (first | with_reducible exact Below.refl _ _ | with_reducible exact hB.out | (with_reducible refine Below.setCell ?_ (by simp) _) | (with_reducible refine Below.alloc ?_ (by simp) _))
 | some j =>
  unfold insO lnA
  go_wp2
  refine bodyPost_ret (v := insO N G (some j)) zq556 rfl ⟨by first | rfl | simp [lnO, lnA], ?_⟩
  repeat (first | with_reducible exact Below.refl _ _ | with_reducible exact hB.out | (with_reducible refine Below.setCell ?_ (by simp) _) | (with_reducible refine Below.alloc ?_ (by simp) _))) : p := h
theorem zq353 {p : Prop} (h : p := by repeat (first | with_reducible exact Below.refl _ _ | with_reducible exact hb1.out | (with_reducible refine Below.setCell ?_ (by simp) _) | (with_reducible refine Below.alloc ?_ (by simp) _))) : p := h
theorem zq354 {p : Prop} (h : p := by rw [h0] at hlt; simp at hlt) : p := h
theorem zq355 {p : Prop} (h : p := by
 go_enter func223, ntmps223
 go_wp2
 exact zq324) : p := h
theorem zq356 {p : Prop} (h : p := by
 go_wp2
 exact zq469) : p := h
theorem zq357 {p : Prop} (h : p := by repeat (first | with_reducible exact Below.refl _ _ | with_reducible exact HB1.out | (with_reducible refine Below.setCell ?_ (by simp) _) | (with_reducible refine Below.alloc ?_ (by simp) _))) : p := h
theorem zq358 {p : Prop} (h : p := by
 have hT : Hid (T = (5, ln0)) := by
  show T = _
  rw [HR.out]
  exact readR_no _ _ _ (by rw [<- HV.out]; exact hz)
 exact zq470) : p := h
theorem zq359 {p : Prop} (h : p := by rw [HR.out]; exact readR_bad _ _ _ (by rw [e2]; exact hz) (by rw [e1, e2, <- hO]; exact h)) : p := h
theorem zq360 {p : Prop} (h : p := by rw [HR.out]; exact readR_yes _ _ _ (by rw [e2]; exact hz) (by rw [e1, e2, <- hO]; exact h)) : p := h
theorem zq361 {p : Prop} (h : p := by
 cases L with
 | nil =>
  have hT : Hid (T = (0, ⟨[], ins0, []⟩)) := HR
  clear HR
  go_wp2
  refine bodyPost_ret (v := .tuple #[lnA ⟨#[]⟩ ins0 ⟨#[]⟩, .int .i64 0]) zq537 rfl ⟨by rw [hT.out] <;> simp only [lnV] <;> (first | rfl | rw [<- HNM.out]), ?_⟩
  repeat (first | with_reducible exact Below.refl _ _ | with_reducible exact HB1.out | (with_reducible refine Below.setCell ?_ (by simp) _) | (with_reducible refine Below.alloc ?_ (by simp) _))
 | cons t LT =>
  have c0 := HST.out 0 (by simp)
  obtain ⟨X, hX⟩ := zn1 (⟨t.toArray⟩ : ByteArray)
  have d0 : w.cell? ⟨b, o, none⟩ = some (.string X) := by rw [<- Nat.add_zero o, c0, hX]; rfl
  have hXt : X.data.toList = t := by rw [hX]
  have hrw := a_readWord X
  obtain ⟨o3, cap3, hsl3, hc3, hst3⟩ := slice_drop b o cap (t :: LT) 1 1 rfl (by simp) hcD
  have hst3' := hst3 w HST.out
  simp only [List.drop_succ_cons, List.drop_zero] at hsl3 hc3 hst3'
  rw [hXt] at hrw
  obtain ⟨V, hV⟩ := zn1 (Byt.wrd t)
  have hV72 : V.1 <= 72 := by rw [hV]; exact wrd_le t
  rw [<- hV] at hrw
  obtain ⟨op, sz⟩ := V
  have HRW := hide1 hrw
  have HV := hide1 hV
  have HST3 := hide1 hst3'
  simp only [List.length_cons] at hlD hcD hsl3
  have hne : ((LT.length : Int) + 1 == 0) = false := by simp; omega
  have hne2 : (LT.length + 1 == 0) = false := by simp
  clear c0 hst3 hst3' hrw hV hX hXt HST
  by_cases hz : sz = 0
  . exact zq358
  . have hz' : ((sz : Int) == 0) = false := by simp; omega
    have hz2 : (sz == 0) = false := by simp; omega
    have hT3 : ∀ O, O = Byt.opsP (Byt.shp op) false ⟨op, 0, 0, 0, 0, sz⟩ [] LT -> (O = none -> T = (6, ln0)) /\ (∀ i g, O = some (i, g) -> T = (0, ⟨[], i, g⟩)) := by
     intro O hO
     have e1 : (Byt.wrd t).1 = op := by rw [<- HV.out]
     have e2 : (Byt.wrd t).2 = sz := by rw [<- HV.out]
     refine ⟨fun h => ?_, fun i g h => ?_⟩
     . exact zq359
     . exact zq360
    obtain ⟨S, hS⟩ := zn1 (Nm.shape op)
    have hs8 := (shape_ok op hV72).1
    have hsl := (shape_ok op hV72).2
    rw [<- hS] at hs8
    have hbw : Below w.heap.size w (w.alloc (lnC ⟨#[]⟩ ins0 ⟨#[]⟩)) := zq135
    have hcall := a_readOperands ⟨#[]⟩ ⟨op, 0, 0, 0, 0, sz⟩ [] S (hide1 hS.symm) hs8 (by rw [hS]; exact hide1 hsl) b o3 cap3 LT (by omega) _ (StrsAt.more HST3 hb hbw) (Nat.lt_of_lt_of_le hb hbw.size) (hide1 (fun t ht => HSD.out t (List.mem_cons_of_mem _ ht)))
    obtain ⟨O, hO⟩ := zn1 (Byt.opsP (S.data.toList.map UInt8.toNat) false ⟨op, 0, 0, 0, 0, sz⟩ [] LT)
    rw [<- hO, lnO_parts] at hcall
    have hTO := hT3 O (by rw [hO, hS]; rfl)
    have hnz := (Bx.new w ⟨#[]⟩ ins0 ⟨#[]⟩)
    have HCALL := hide1 (hcall.mono fun e w1 h => (⟨h.1, hide1 (hbw.trans (h.2.mono hbw.size)), hide1 (hnz.more h.2 hnz.lt)⟩ : _ /\ Hid (Below w.heap.size w w1) /\ Hid (Bx w1 w.heap.size ⟨#[]⟩ ins0 ⟨#[]⟩)))
    have HTO := hide1 hTO
    unfold lnA lnC ins0 at HCALL
    clear hT3 hs8 hsl hbw hcall hnz hTO hS hO HR HST3 HSD HV hw hs he hp
    go_wp2_with fail
    refine (HRW.out _).mono ?_
    rintro e w1 ⟨rfl, rfl⟩
    go_wp2_with fail
    refine HCALL.out.mono ?_
    rintro e w1 ⟨rfl, HB1, hz0⟩
    clear HCALL HRW
    have HBS : Hid (w.heap.size < w1.heap.size) := hz0.out.lt
    have y0 := hz0.out.c0
    have y1 := hz0.out.c1
    have y2 := hz0.out.c2
    have y3 := hz0.out.c3
    have y4 := hz0.out.c4
    have y5 := hz0.out.c5
    have y6 := hz0.out.c6
    have y7 := hz0.out.c7
    have yf := hz0.out.fro
    have yl := hz0.out.lt
    cases O with
    | none =>
     have hT := hide1 (HTO.out.1 rfl)
     clear HTO
     go_wp2
     refine bodyPost_ret (v := .tuple #[lnA ⟨#[]⟩ ins0 ⟨#[]⟩, .int .i64 6]) zq538 rfl ⟨by rw [hT.out] <;> rfl, ?_⟩
     repeat (first | with_reducible exact Below.refl _ _ | with_reducible exact HB1.out | (with_reducible refine Below.setCell ?_ (by simp) _) | (with_reducible refine Below.alloc ?_ zq539 _))
    | some r =>
     obtain ⟨i1, g1⟩ := r
     have hT := hide1 (HTO.out.2 i1 g1 rfl)
     clear HTO
     obtain ⟨G1, hG1⟩ := zn1 (oG (some (i1, g1)))
     have HG1 : Hid (G1 = ⟨g1.toArray⟩) := hG1
     have e1 : oN ⟨#[]⟩ (some (i1, g1)) = ⟨#[]⟩ := rfl
     have e2 : oI (some (i1, g1)) = i1 := rfl
     rw [<- hG1, e1, e2]
     clear hG1 e1 e2
     go_wp2
     refine bodyPost_ret (v := .tuple #[lnA ⟨#[]⟩ i1 G1, .int .i64 0]) zq538 rfl ⟨by rw [hT.out]; simp only [lnV]; rw [<- HG1.out] <;> (first | rfl | rw [<- HNM.out]), ?_⟩
     repeat (first | with_reducible exact Below.refl _ _ | with_reducible exact HB1.out | (with_reducible refine Below.setCell ?_ (by simp) _) | (with_reducible refine Below.alloc ?_ zq539 _))) : p := h
theorem zq362 {p : Prop} (h : p := by
 go_wp2
 go_meet
 case rel => exact zq471) : p := h
theorem zq363 {p : Prop} (h : p := by
 go_ret2
 exact ⟨rfl, (Below.refl _ _).alloc (Nat.le_refl _) _⟩) : p := h
theorem zq364 {p : Prop} (h : p := by
 go_enter func155, ntmps155
 go_wp2_with (go_at_call 223; refine (HD.out _).mono ?_; rintro e w' ⟨rfl, rfl⟩)
 go_ret2
 exact ⟨rfl, (Below.refl _ _).alloc (Nat.le_refl _) _⟩) : p := h
theorem zq365 {p : Prop} (h : p := by
 go_enter func155, ntmps155
 go_wp2_with (go_at_call 87; refine (HE.out _).mono ?_; rintro e w' ⟨rfl, hb⟩)
 go_ret2
 exact ⟨rfl, ((Below.refl _ _).alloc (Nat.le_refl _) _).trans (hb.mono (by simp))⟩) : p := h
theorem zq366 {p : Prop} (h : p := by
 refine HWO.out.mono ?_
 rintro e w1 ⟨rfl, hb1, d6⟩
 clear HWO
 obtain ⟨v, er⟩ := V
 by_cases her : er = 0
 . have her' : (er != 0) = false := by simp [her]
   obtain ⟨B, hB⟩ := zn1 (strOfNums (leL v z))
   have hBs : B.size = z := by rw [hB, strNums_size, leL_length]
   obtain ⟨C, hC⟩ := zn1 (X ++ B)
   have hadd : ∀ w, (Op.stringOp .add X B).run prog w = .ok (.string C) w := fun w => add_str (a := X) (b := B) (c := C) hC.symm (by omega) w
   have hCs : C.size <= 4 * (k + 1) := by rw [hC, ByteArray.size_append]; omega
   have hgo2 : Hid (R = Byt.lay L (L.drop (k + 1)) (k + 1) C.data.toList) := by
    show R = _
    have h := hgo.out
    rw [if_pos her] at h
    rw [h, hC, app_list, hB]; rfl
   have HBB := hide1 hB
   clear hgo hB hC her hBs
   go_wp2_with (go_at_call 147; refine (a_Le v z (by omega) _).mono ?_; rintro e w2 ⟨rfl, hb2⟩; rw [<- HBB.out])
   go_roundw
   case rel =>
    first
     | exact ⟨k + 1, C, by omega, hCs, rfl, by go_num, hide1 (hb1.out.trans (hb2.mono hb1.out.size)), hgo2⟩
     | ((repeat apply Exists.intro); exact ⟨⟨k + 1, C, by omega, hCs, rfl, by go_num, hide1 (hb1.out.trans (hb2.mono hb1.out.size)), hgo2⟩, rfl⟩)
   case measure => exact zq191
 . have her' : (er != 0) = true := by simp [her]
   have hgo2 : Hid (R = ([], er, k + 1)) := by
    show R = _
    have h := hgo.out
    rw [if_neg her] at h
    exact h
   clear hgo her
   go_wp2
   go_ret3
   exact ⟨by rw [hgo2.out]; rfl, hb1.out⟩) : p := h
theorem zq367 {p : Prop} (h : p := by
 have q : (er != 0) = true := by simp [her]
 have q' : (er == 0) = false := by simp [her]
 clear her
 go_wp2_with fail
 go_ret
 exact ⟨.inl rfl, K2.out⟩) : p := h
theorem zq368 {p : Prop} (h : p := by
 clear zr
 go_wp2_with fail
 all_goals
  go_ret
  exact ⟨⟨_, rfl⟩, M5.out, K5.out⟩) : p := h
theorem zq369 {p : Prop} (h : p := by
 rintro o w1 ⟨⟨e, rfl⟩, hm, hk⟩
 exact zq370) : p := h
theorem zq370 {p : Prop} (h : p := by
 have M1 := hide1 hm
 exact zq472) : p := h
theorem zq371 {p : Prop} (h : p := by
 clear hm hk M0 K0
 exact zq373) : p := h
theorem zq372 {p : Prop} (h : p := by
 go_wp2_with fail
 all_goals
  go_ret
  exact ⟨⟨_, rfl⟩, M2.out, K2.out⟩) : p := h
theorem zq373 {p : Prop} (h : p := by
 go_wp2_with fail
 all_goals
  go_ret
  exact ⟨⟨_, rfl⟩, M1.out, K1.out⟩) : p := h
theorem zq374 {p : Prop} (h : p := by
 rw [<- hX] at hr |-
 have HR := hide1 hr
 clear hr hX ht
 go_enter func216, ntmps216
 go_wp2_with (go_at_call 303; refine (HR.out _).mono ?_; rintro e w' ⟨rfl, rfl⟩)
 go_ret
 exact ⟨rfl, hbw _⟩) : p := h
theorem zq375 {p : Prop} (h : p := by
 rw [if_neg (by decide), if_neg (by decide), if_neg (by decide), if_neg (by decide), if_neg (by decide)]
 obtain ⟨X, hX⟩ := zn1 (Byt.strV (Lib.itoa im))
 have hr := fun w ht => a_itoa im (by omega) (by omega) w ht
 exact zq376) : p := h
theorem zq376 {p : Prop} (h : p := by
 rw [<- hX] at hr |-
 exact zq473) : p := h
theorem zq377 {p : Prop} (h : p := by
 clear h2
 go_enter func142, ntmps142
 go_wp2_with (first | (go_at_call 212; refine (a_Name _ _).mono ?_; rintro e w' ⟨rfl, rfl⟩; rw [HX'.out]) | (go_at_call 213; refine HN.out.mono ?_; rintro e w1 ⟨rfl, hb1⟩))
 go_ret
 exact ⟨rfl, hb1⟩) : p := h
theorem zq378 {p : Prop} (h : p := by
 go_wp2_with (go_at_call 142; refine (HDT.out _ ht2.out).mono ?_; rintro e w3 ⟨rfl, hb3⟩)
 go_ret2
 exact ⟨by rw [HT.out, HB.out]; rfl, hb12.out.trans (hb3.mono hb12.out.size)⟩) : p := h
theorem zq379 {p : Prop} (h : p := by next hf => exact ⟨k, k1, by omega, hf, by rw [<- Option.some.inj k3]; rfl⟩) : p := h
theorem zq380 {p : Prop} (h : p := by
 rw [Bool.or_eq_true, beq_iff_eq] at h
 rcases h with h | h
 . omega
 . exact row_real _ h W) : p := h
theorem zq381 {p : Prop} (h : p := by rw [hd]; exact ⟨tame0 _, by decide, by decide, by omega, by omega⟩) : p := h
theorem zq382 {p : Prop} (h : p := by
 rw [hd]; obtain ⟨p1, p2, p3⟩ := hr _ o ho
 exact ⟨p1, p2, p3, by omega, by omega⟩) : p := h
theorem zq383 {p : Prop} (h : p := by
 go_wp2_with (first | (go_at_call 91; refine (RG.out _).mono ?_; rintro o wq ⟨⟨v, h0, h1, rfl⟩, hwq⟩; rw [hwq]; clear hwq wq) | (go_at_call 98; refine (MI.out _ (by omega) (by omega)).mono ?_; rintro o wq ⟨rfl, hwq⟩; rw [hwq]; clear hwq wq))
 all_goals
  go_ret
  exact ⟨⟨_, rfl⟩, rfl⟩) : p := h
theorem zq384 {p : Prop} (h : p := by
 go_wp2_with (first | (go_at_call 91; refine (RG.out _).mono ?_; rintro o wq ⟨⟨v, h0, h1, rfl⟩, hwq⟩; rw [hwq]; clear hwq wq))
 all_goals
  go_ret
  exact ⟨⟨_, rfl⟩, rfl⟩) : p := h
theorem zq385 {p : Prop} (h : p := by
 have HK := hide1 hk
 clear hk
 go_wp2_with fail
 go_ret
 exact ⟨⟨_, rfl⟩, HK.out⟩) : p := h
theorem zq386 {p : Prop} (h : p := by
 rintro o w2 ⟨⟨v, er, q0, q1, rfl⟩, hm, hk⟩
 have M2 := hide1 hm
 have K2 := hide1 (kept_new K1.out hk l1 l2)
 clear hm hk M1 K1
 have RG := hide1 (fun i => m_Reg0 mb rb w2 M2.out.m i)
 go_wp2_with (first | (go_at_call 91; refine (RG.out _).mono ?_; rintro o wq ⟨⟨v, h0, h1, rfl⟩, hwq⟩; rw [hwq]; clear hwq wq))
 all_goals
  go_ret
  exact ⟨⟨_, rfl⟩, K2.out⟩) : p := h
theorem zq387 {p : Prop} (h : p := by
 go_wp2_with fail
 all_goals
  go_meet
  case rel => exact ⟨⟨_, rfl⟩, rfl⟩) : p := h
theorem zq388 {p : Prop} (h : p := by
 rintro e w1 ⟨⟨r, rfl⟩, hk⟩
 have K1 := hide1 (K0.out.trans hk)
 clear hk K0 T0
 exact zq389) : p := h
theorem zq389 {p : Prop} (h : p := by
 go_wp2_with fail
 go_ret
 exact ⟨⟨r, rfl, hide1 (by omega)⟩, K1.out⟩) : p := h
theorem zq390 {p : Prop} (h : p := by
 clear hb hx hw k0 ob0
 go_enter func17, ntmps17
 go_wp2_with fail
 refine N.out.mono ?_
 rintro o w1 ⟨rfl, rfl⟩
 go_wp2_with fail
 go_ret
 exact ⟨rfl, L0.out, B0.out⟩) : p := h
theorem zq391 {p : Prop} (h : p := by
 go_wp2_with fail
 go_meet
 case rel => exact zq471) : p := h
theorem zq392 {p : Prop} (h : p := by
 as_aux_lemma =>
  exact zq474) : p := h
theorem zq393 {p : Prop} (h : p := by rw [if_neg hi, List.getElem?_eq_none (by simp; omega)]) : p := h
theorem zq394 {p : Prop} (h : p := by exact fun h => absurd rfl h) : p := h
theorem zq395 {p : Prop} (h : p := by
 split
 . exact fun h => absurd rfl h
 . exact fun _ => ⟨_, rfl⟩) : p := h
theorem zq396 {p : Prop} (h : p := by exact fun _ => ⟨_, rfl⟩) : p := h
theorem zq397 {p : Prop} (h : p := by
 unfold ccrX
 split
 . unfold wcsX writeSuperD writeMachD writeCounterD
   repeat' (first | refine ite ?_ ?_ | exact hs _ _ | rfl)
 . exact hs _ _) : p := h
theorem zq398 {p : Prop} (h : p := by intro h; exact absurd h zq540) : p := h
theorem zq399 {p : Prop} (h : p := by
 have : c = 7 \/ c = 15 := by
  rw [if_neg (by decide), if_neg (by decide)] at h
  split at h <;> omega
 omega) : p := h
theorem zq400 {p : Prop} (h : p := by
 have V1 := hide1 (ST.out i wr hV.out (by omega))
 go_wp2_with fail
 all_goals
  go_roundw
  case rel => exact ⟨i + 1, by omega, by go_num, hb, hk, hU, V1⟩
  case measure => exact zq191) : p := h
theorem zq401 {p : Prop} (h : p := by
 go_quiet (fail)
 all_goals
  go_wp2_with fail
  go_ret
  exact ⟨rfl, (Kept.refl _ _).drewN _⟩) : p := h
theorem zq402 {p : Prop} (h : p := by
 cases D
 all_goals
  have V := W _ (hide1 (E.out _ rfl))
  clear E W
  go_enter func104, ntmps104
  go_wp2_with fail
  go_ret
  exact ⟨congrArg (fun x => Ending.returned (Value.int .i64 x)) V.out.symm, rfl⟩) : p := h
theorem zq403 {p : Prop} (h : p := by
 go_wp2_with fail
 go_roundw
 case rel => exact ⟨i + 1, by omega, by go_num, hf1, hd1, K1⟩
 case measure => exact zq191) : p := h
theorem zq404 {p : Prop} (h : p := by
 clear h2 h3
 go_upto_region 14 with fail
 go_quiet (fail)
 all_goals
  go_wp2_with fail
  go_ret
  exact ⟨rfl, hkr.out.drewN _⟩) : p := h
theorem zq405 {p : Prop} (h : p := by
 by_cases e : i = k
 . rw [if_pos e]; simp [e]
 . rw [if_neg e]; simp [show ¬ k = i from fun q => e q.symm]) : p := h
theorem zq406 {p : Prop} (h : p := by
 have : i = 0 \/ i = 1 \/ i = 2 \/ i = 3 \/ i = 4 \/ i = 5 \/ i = 6 \/ i = 7 \/ i = 8 \/ i = 9 \/ i = 10 \/ i = 11 \/ i = 12 := by omega
 rcases this with rfl | rfl | rfl | rfl | rfl | rfl | rfl | rfl | rfl | rfl | rfl | rfl | rfl <;> decide) : p := h
theorem zq407 {p : Prop} (h : p := by
 rw [Nat.testBit_lt_two_pow (Nat.lt_of_lt_of_le (by decide : 6144 < 2 ^ 13) (Nat.pow_le_pow_right (by decide) (by omega)))]
 simp; omega) : p := h
theorem zq408 {p : Prop} (h : p := by rw [e] at h; exact absurd h (by decide)) : p := h
theorem zq409 {p : Prop} (h : p := by
 as_aux_lemma =>
  go_quiet (fail)
  all_goals
   go_wp2_with fail
   go_ret
   exact ⟨rfl, (s10.out.drewN _).1.2.2.2⟩) : p := h
theorem zq410 {p : Prop} (h : p := by
 rcases beqC k 2 with ⟨qa, qb⟩ | ⟨qa, qb⟩
 . have e1 : f.mideleg = (DG : Int) := D2.out (eq_of_beq qa)
   have e2 : Hid ((c : Int) + 2147483648 = (CC : Int)) := hide1 (by have := HC.out; rw [if_pos (eq_of_beq qa)] at this; omega)
   rw [e1] at f5
   as_aux_lemma =>
    go_wp2_with fail
    all_goals
     go_meet
     case rel => exact ⟨⟨rfl, congrArg (fun x => Value.int .i64 x) e2.out⟩, rfl⟩
 . have k1 : k = 1 := HK.out.resolve_right (by simpa using qa)
   have e1 : Hid (f.medeleg = (DG : Int)) := hide1 (D1.out k1)
   have e2 : Hid ((c : Int) = (CC : Int)) := hide1 (by have := HC.out; rw [if_neg (by simpa using qa)] at this; omega)
   clear k1
   as_aux_lemma =>
    go_wp2_with fail
    all_goals
     go_meet
     case rel => exact ⟨⟨congrArg (fun x => Value.int .i64 x) e1.out, congrArg (fun x => Value.int .i64 x) e2.out⟩, rfl⟩) : p := h
theorem zq411 {p : Prop} (h : p := by
 rcases beqC f.mode 3 with ⟨qa, qb⟩ | ⟨qa, qb⟩ <;> cases dn
 all_goals first | (exfalso; have := DS.out; rw [qa] at this; exact absurd this (by decide)) | skip
 all_goals
  as_aux_lemma =>
   exact zq475) : p := h
theorem zq412 {p : Prop} (h : p := by
 as_aux_lemma =>
  go_quiet (fail)
  all_goals
   go_wp2_with fail
   go_meet
   case rel => exact ⟨rfl, hide1 (s0.out.drewN _)⟩) : p := h
theorem zq413 {p : Prop} (h : p := by
 as_aux_lemma =>
  go_wp2_with fail
  all_goals
   go_meet
   case rel => exact ⟨rfl, s4⟩) : p := h
theorem zq414 {p : Prop} (h : p := by
 rcases beqC k 2 with ⟨qa, qb⟩ | ⟨qa, qb⟩
 all_goals
  rw [qa] at hbi
  rw [<- EV] at hbi
  obtain ⟨b2, hb2⟩ := zn2 ((bits .and .i64 (V : Int) 1 == 1))
  rw [hb2] at hbi
  clear EV E0 HM HT C2 C3 p1 p1' t1 t1' TS
  cases b2
  all_goals
   first | obtain rfl : bi = true := hbi.symm | obtain rfl : bi = false := hbi.symm
   as_aux_lemma =>
    exact zq475) : p := h
theorem zq415 {p : Prop} (h : p := by
 cases bi
 . have e1 : Hid ((T0 : Int) = (TG : Int)) := hide1 (by have := HT.out; rw [if_neg (fun q => absurd (HB.out.2 q) (by decide))] at this; rw [this])
   exact zq476
 . have e1 : Hid (bits .and .i64 ((T0 : Int) + 4 * (c : Int)) 4294967295 = (TG : Int)) := hide1 (by rw [HM.out _ rfl]; have := HT.out; rw [if_pos (HB.out.1 rfl)] at this; rw [this])
   exact zq476) : p := h
theorem zq416 {p : Prop} (h : p := by
 as_aux_lemma =>
  exact zq475) : p := h
theorem zq417 {p : Prop} (h : p := by
 have ⟨qc, qd⟩ := beqT (H8.out.resolve_left (by simpa using qa))
 exact zq420) : p := h
theorem zq418 {p : Prop} (h : p := by
 as_aux_lemma =>
  go_quiet (fail)
  all_goals
   go_wp2_with fail
   go_meet
   case rel => exact ⟨rfl, hide1 (hs.out.drewN _)⟩) : p := h
theorem zq419 {p : Prop} (h : p := by
 as_aux_lemma =>
  go_quiet (fail)
  all_goals
   go_wp2_with fail
   go_meet
   case rel => exact ⟨rfl, hide1 (s2.out.drewN _)⟩) : p := h
theorem zq420 {p : Prop} (h : p := by
 as_aux_lemma =>
  exact zq477) : p := h
theorem zq421 {p : Prop} (h : p := by rw [e] at h; exact absurd (congrArg Prod.fst h) zq526) : p := h
theorem zq422 {p : Prop} (h : p := by rw [e] at h; exact absurd h zq526) : p := h
theorem zq423 {p : Prop} (h : p := by
 clear hcs h61 hk
 exact zq424) : p := h
theorem zq424 {p : Prop} (h : p := by
 go_enter func56, ntmps56
 exact zq478) : p := h
theorem zq425 {p : Prop} (h : p := by
 go_enter func58, ntmps58
 exact zq245) : p := h
theorem zq426 {p : Prop} (h : p := by
 clear h
 exact zq425) : p := h
theorem zq427 {p : Prop} (h : p := by
 rw [m] at c0
 clear m h
 exact zq425) : p := h
theorem zq428 {p : Prop} (h : p := by
 clear h
 exact zq429) : p := h
theorem zq429 {p : Prop} (h : p := by
 rcases h2 with rfl | rfl
 all_goals
  go_enter func58, ntmps58
  go_wp2_with fail
  go_ret
  exact ⟨rfl, (Kept.refl _ _).alloc _⟩) : p := h
theorem zq430 {p : Prop} (h : p := by
 clear CV B2 K2
 go_wp2_with fail
 go_roundw
 case rel => exact ⟨i + 1, by omega, by go_num, B1, K1, I2⟩
 case measure => exact zq191) : p := h
theorem zq431 {p : Prop} (h : p := by
 go_wp2_with fail
 exact zq479) : p := h
theorem zq432 {p : Prop} (h : p := by
 have I7 := hide1 (J1.out.next AA.out EV.out (fun h => absurd h NL.out) (fun _ q' e1 e2 => by rw [HP.out] at e1; omega))
 exact zq431) : p := h
theorem zq433 {p : Prop} (h : p := by
 refine wpAnyH_ready (rs := [25]) (by kernel_rfl) (by simp) ?_
 refine AllReadyH.cons rfl (fun K hK => ?_) AllReadyH.nil
 go_simp
 refine (RR.out _ h1 _ _ _ (hide1 (ht.out.kept (Kept.refl [] _).drew)) (hide1 (hfl.out.kept (Kept.refl [] _).drew ht.out.s4.lt).no)).mono ?_
 rintro o w1 ⟨rfl, hr1⟩
 have ht1 := hr1.ta
 have hk1 := hr1.kp
 refine hK.out _ _ (ST.out _ ((Kept.refl _ _).drew.trans hk1)) (fun hHeld => ?_)
 clear hK K
 try simp only [Act.put, List.setIfInBounds_toArray, List.set_cons_zero, List.set_cons_succ]
 refine wpAnyH_done (by kernel_rfl) ?_ _
 go_wp2_with fail
 go_ret
 exact ⟨⟨tb, b0, b1, b2, b3, b4, rfl, ht1, fun p' hp' e => ⟨_, by
  rw [AE.out] at e
  obtain rfl : p' = p := by omega
  rw [qa, <- HS.out]
  exact hr1⟩⟩, hk.out.fresh ((Kept.refl _ _).drew.trans hk1) hfr.out⟩) : p := h
theorem zq434 {p : Prop} (h : p := by
 go_upto_region 2 with fail
 exact zq401) : p := h
theorem zq435 {p : Prop} (h : p := by
 as_aux_lemma =>
  go_quiet (fail)
  all_goals
   go_wp2_with fail
   go_meet
   case rel => exact ⟨⟨_, rfl, hide1 (fun h => Bool.noConfusion h)⟩, _, rfl⟩) : p := h
theorem zq436 {p : Prop} (h : p := by
 have r0 := se.out.2.1.cell 0 _ rfl
 have r1 := se.out.2.1.cell 1 _ rfl
 have r2 := se.out.2.1.cell 2 _ rfl
 have r3 := se.out.2.1.cell 3 _ rfl
 have r4 := se.out.2.1.cell 4 _ rfl
 have r5 := se.out.2.1.cell 5 _ rfl
 have rf := se.out.2.1.fro
 have rl := se.out.2.1.lt
 have rn : ¬ rb = wd.heap.size := by omega
 as_aux_lemma =>
  go_wp2_with fail
  obtain ⟨bx, kx⟩ := se.out.six gr (.int .i64 a0) (.int .i64 a1) (.int .i64 a2) (.int .i64 a3) (.int .i64 a4) (.int .i64 a5)
  exact at_ret _ rb _ _ _ _ _ _ _ (bx.alloc _) rfl ⟨AR.out, kx.alloc _⟩) : p := h
theorem zq437 {p : Prop} (h : p := by
 as_aux_lemma =>
  go_wp2_with fail
  all_goals
   go_meet
   case rel => exact ⟨⟨_, rfl, hide1 (by simp)⟩, s0⟩) : p := h
theorem zq438 {p : Prop} (h : p := by
 have r0 := se.out.2.1.cell 0 _ rfl
 have r1 := se.out.2.1.cell 1 _ rfl
 have r2 := se.out.2.1.cell 2 _ rfl
 have r3 := se.out.2.1.cell 3 _ rfl
 have r4 := se.out.2.1.cell 4 _ rfl
 have r5 := se.out.2.1.cell 5 _ rfl
 have rf := se.out.2.1.fro
 have rl := se.out.2.1.lt
 as_aux_lemma =>
  go_wp2_with fail
  obtain ⟨bx, kx⟩ := se.out.six gr (.int .i64 0) (.int .i64 0) (.int .i64 0) (.int .i64 0) (.int .i64 0) (.int .i64 0)
  exact at_ret _ rb _ _ _ _ _ _ _ bx rfl ⟨I0.out, kx⟩) : p := h
theorem zq439 {p : Prop} (h : p := by
 have i0 := s.out.i.cell 0 _ rfl
 exact zq480) : p := h
theorem zq440 {p : Prop} (h : p := by
 clear AT CH LO
 exact zq481) : p := h
theorem zq441 {p : Prop} (h : p := by
 clear f0 g0 fl gl RT RM
 go_wp2_with fail
 refine (k_returnedT mb rb fb gb Y YI.out.ok f g a0 OP.out RR.out _ (hide1 s.out.st)).mono ?_
 rintro o w7 ⟨rfl, hk⟩
 clear i0 i1 i2 i3 i4 i5 il d0 d1 dl
 replace s := hide1 (s.out.kept hk)
 clear hk OP
 exact zq439) : p := h
theorem zq442 {p : Prop} (h : p := by
 clear AT CH LO
 have re := str_eq (KK.out.ra (by omega))
 have re2 := str_eq (KK.out.ra (by omega)).symm
 exact zq481) : p := h
theorem zq443 {p : Prop} (h : p := by
 as_aux_lemma =>
  go_quiet (fail)
  all_goals
   go_wp2_with fail
   go_ret
   exact ⟨⟨_, rfl⟩, s14.out.m.kept ((Kept.refl [] _).drewN _), (s14.out.kp.mono (by simp)).drewN _⟩) : p := h
theorem zq444 {p : Prop} (h : p := by
 go_wp2_with fail
 go_ret
 exact ⟨⟨_, rfl⟩, m1.out, K1.out.mono (by simp)⟩) : p := h
theorem zq445 {p : Prop} (h : p := by
 have q31 : (k == 31) = false := by simp; omega
 exact zq446) : p := h
theorem zq446 {p : Prop} (h : p := by
 have q32 : (k == 32) = false := by simp; omega
 exact zq447) : p := h
theorem zq447 {p : Prop} (h : p := by
 clear hk
 exact zq482) : p := h
theorem zq448 {p : Prop} (h : p := by
 go_wp2_with fail
 exact zq483) : p := h
theorem zq449 {p : Prop} (h : p := by
 go_wp2_with fail
 go_roundw
 case rel => exact ⟨n + 1, by omega, by go_num, HB2, HX2⟩
 case measure => exact zq191) : p := h
theorem zq450 {p : Prop} (h : p := by
 go_wp2
 exact zq451) : p := h
theorem zq451 {p : Prop} (h : p := by
 go_ret
 exact ⟨by first | rfl | (refine congrArg (fun b => Ending.returned (Value.bool b)) ?_; simp; omega), rfl⟩) : p := h
theorem zq452 {p : Prop} (h : p := by
 go_wp2
 go_ret2
 exact ⟨⟨o, (HP.out.trans ho.out : _ = _), by omega, rfl⟩, rfl⟩) : p := h
theorem zq453 {p : Prop} (h : p := by
 go_wp2_with (first | (go_at_call 135; refine (x_word _ _).mono ?_; rintro e w' ⟨rfl, rfl⟩) | (go_at_call 263; refine (x_signed _ (by assumption) _).mono ?_; rintro e w' ⟨rfl, rfl⟩) | (go_at_call 255; refine (x_oneIf _ _).mono ?_; rintro e w' ⟨rfl, rfl⟩) | (go_at_call 337; refine (x_quotient _ _ _).mono ?_; rintro e w' ⟨rfl, rfl⟩) | (go_at_call 338; refine (x_remainder _ _ _).mono ?_; rintro e w' ⟨rfl, rfl⟩) | (go_at_call 336; refine (x_highWord _ _ (by omega) (by omega) (by omega) (by omega) _).mono ?_; rintro e w' ⟨rfl, rfl⟩))
 go_ret
 exact ⟨ret_intE (by (try simp only [wordN_wrap]); first | exact u_add a b | exact u_bool _ | exact u_div a b ha hb | exact u_divu a b ha hb | exact u_mul a b ha hb | exact u_mulhu a b ha hb | exact u_rem a b ha hb | exact u_remu a b ha hb | exact u_sll a b r HR.out | exact u_sub a b | (rw [show alu_sra a b = wordN (sgn a / ((2 ^ r : Nat) : Int)) by rw [HR.out]; rfl]; simp) | (rw [show alu_srl a b = a / 2 ^ r by rw [HR.out]; rfl]; simp) | rfl), rfl⟩) : p := h
theorem zq454 {p : Prop} (h : p := by
 refine S1.out.mono ?_
 rintro e w1 ⟨rfl, rfl⟩
 go_wp2_with fail
 go_ret
 exact ⟨rfl, rfl⟩) : p := h
theorem zq455 {p : Prop} (h : p := by
 go_ret
 exact ⟨by rw [HT.out] <;> rfl, rfl⟩) : p := h
theorem zq456 {p : Prop} (h : p := by
 clear hT
 exact zq457) : p := h
theorem zq457 {p : Prop} (h : p := by
 go_enter func333, ntmps333
 exact zq485) : p := h
theorem zq458 {p : Prop} (h : p := by
 go_ret
 refine ⟨rfl, ?_⟩
 exact zq274) : p := h
theorem zq459 {p : Prop} (h : p := by
 refine (SR.out _ (hide1 hx3)).mono ?_
 exact zq486) : p := h
theorem zq460 {p : Prop} (h : p := by
 obtain ⟨ic0w3, ic1w3, ic2w3, ic3w3, ic4w3, ic5w3, ifw3, izw3, izw31, inw31, izw32, inw32, izw33, inw33, izw34, inw34⟩ : Zc6 w3 w.heap.size op rd rs1 rs2 im ln := zq163
 obtain ⟨rc0w3, rc1w3, rfw3, rzw3, rzw31, rnw31, rzw32, rnw32, rzw33, rnw33, rzw34, rnw34⟩ : Zc2 w3 (w.heap.size + 1) 0 0 := zq164
 obtain ⟨fc0w3, fc1w3, ffw3, fzw3, fzw31, fnw31, fzw32, fnw32, fzw33, fnw33, fzw34, fnw34⟩ : Zc2 w3 w1.heap.size pa1 n1 := zq164
 go_wp2_with (first | (go_at_call 268; refine (AS.out _).mono ?_; rintro o w5 ⟨rfl, rfl⟩) | (go_at_call 270; refine (EX.out _).mono ?_; rintro o w5 ⟨rfl, rfl⟩) | (go_at_call 135; refine (W2.out _).mono ?_; rintro o w5 ⟨rfl, rfl⟩))
 exact zq459) : p := h
theorem zq461 {p : Prop} (h : p := by
 go_upto_region 1 with fail
 refine wp_region_lit ?_
 refine wpList_plain rfl (fun K hK => ?_)
 go_simp
 refine hK _ _ ?_
 clear hK K
 refine wpList_plain rfl (fun K hK => ?_)
 go_simp
 refine hK _ _ ?_
 clear hK K
 refine wpList_plain rfl (fun K hK => ?_)
 go_simp
 refine hK _ _ ?_
 clear hK K
 refine wpList_load_mid rfl _ _ rfl mb 38 (by rfl) cs _ HR.out Tryz.underlying71 rfl zq519 ?_
 refine wpList_plain rfl (fun K hK => ?_)
 go_simp
 refine hK _ _ ?_
 clear hK K
 refine wpList_store_mid rfl _ _ _ rfl w.heap.size 0 cs.toArray rfl rfl zq520 zq521 zq522 ?_
 obtain ⟨w2, hw2, hr2, hk2⟩ := copy_box w (#[.int .i64 0, .int .i64 0, .int .i64 0, .int .i64 0, .int .i64 0, .int .i64 0, .int .i64 0, .int .i64 0, .int .i64 0, .int .i64 0, .int .i64 0, .int .i64 0, .int .i64 0, .int .i64 0, .int .i64 0, .int .i64 0, .int .i64 0, .int .i64 0, .int .i64 0, .int .i64 0, .int .i64 0, .int .i64 0, .int .i64 0]) 71 cs.toArray hsz
 rw [<- hw2]
 have hz2 : w.heap.size < w2.heap.size := zq88
 clear hw2
 have d0 : w2.cell? ⟨w.heap.size, 0, none⟩ = some (.int .i64 X.c.mstatus) := zq89
 have d1 : w2.cell? ⟨w.heap.size, 1, none⟩ = some (.int .i64 X.c.medeleg) := zq90
 have d2 : w2.cell? ⟨w.heap.size, 2, none⟩ = some (.int .i64 X.c.mideleg) := zq91
 have d3 : w2.cell? ⟨w.heap.size, 3, none⟩ = some (.int .i64 X.c.mie) := zq92
 have d4 : w2.cell? ⟨w.heap.size, 4, none⟩ = some (.int .i64 X.c.mip) := zq93
 have d5 : w2.cell? ⟨w.heap.size, 5, none⟩ = some (.int .i64 X.c.mtvec) := zq94
 have d6 : w2.cell? ⟨w.heap.size, 6, none⟩ = some (.int .i64 X.c.mcen) := zq95
 have d7 : w2.cell? ⟨w.heap.size, 7, none⟩ = some (.int .i64 X.c.minh) := zq96
 have d8 : w2.cell? ⟨w.heap.size, 8, none⟩ = some (.int .i64 X.c.mscratch) := zq97
 have d9 : w2.cell? ⟨w.heap.size, 9, none⟩ = some (.int .i64 X.c.mepc) := zq98
 have d10 : w2.cell? ⟨w.heap.size, 10, none⟩ = some (.int .i64 X.c.mcause) := zq99
 have d11 : w2.cell? ⟨w.heap.size, 11, none⟩ = some (.int .i64 X.c.mtval) := zq100
 have d12 : w2.cell? ⟨w.heap.size, 12, none⟩ = some (.int .i64 X.c.stvec) := zq101
 have d13 : w2.cell? ⟨w.heap.size, 13, none⟩ = some (.int .i64 X.c.scen) := zq102
 have d14 : w2.cell? ⟨w.heap.size, 14, none⟩ = some (.int .i64 X.c.sscratch) := zq103
 have d15 : w2.cell? ⟨w.heap.size, 15, none⟩ = some (.int .i64 X.c.sepc) := zq104
 have d16 : w2.cell? ⟨w.heap.size, 16, none⟩ = some (.int .i64 X.c.scause) := zq105
 have d17 : w2.cell? ⟨w.heap.size, 17, none⟩ = some (.int .i64 X.c.stval) := zq106
 have d18 : w2.cell? ⟨w.heap.size, 18, none⟩ = some (.int .i64 X.c.satp) := zq107
 have d19 : w2.cell? ⟨w.heap.size, 19, none⟩ = some (.int .i64 X.c.cyc) := zq108
 have d20 : w2.cell? ⟨w.heap.size, 20, none⟩ = some (.int .i64 X.c.cych) := zq109
 have d21 : w2.cell? ⟨w.heap.size, 21, none⟩ = some (.int .i64 X.c.ret) := zq110
 have d22 : w2.cell? ⟨w.heap.size, 22, none⟩ = some (.int .i64 X.c.reth) := zq111
 clear hr2
 refine wpList_nil ?_
 go_wp2_with fail
 go_ret2
 exact ⟨rfl, hk2⟩) : p := h
theorem zq462 {p : Prop} (h : p := by
 go_wp2_with (go_at_call 255; refine (x_oneIf _ _).mono ?_; rintro o w5 ⟨rfl, rfl⟩)
 exact zq487) : p := h
theorem zq463 {p : Prop} (h : p := by
 clear h3
 go_enter func306, ntmps306
 exact zq462) : p := h
theorem zq464 {p : Prop} (h : p := by
 clear hw hX hi hR hY hcl hol hop hwr hlo hmip hm hchl
 go_enter func203, ntmps203
 go_wp2_with (go_at_call 39; refine (A1.out _ hwa).mono ?_; rintro o w5 ⟨rfl, rfl⟩)
 refine (RC.out _ hwa).mono ?_
 rintro o w1 ⟨rfl, hk1⟩
 have hx1 := hide1 (hwa.out.kept hk1)
 obtain ⟨ic0w1, ic1w1, ic2w1, ic3w1, ic4w1, ic5w1, ifw1, izw1, izw11, inw11, izw12, inw12, izw13, inw13, izw14, inw14⟩ : Zc6 w1 w.heap.size op rd rs1 rs2 im ln := zq166
 go_wp2_with fail
 refine (SR.out _ hx1).mono ?_
 rintro o w2 ⟨rfl, hx2, hk2⟩
 obtain ⟨ic0w2, ic1w2, ic2w2, ic3w2, ic4w2, ic5w2, ifw2, izw2, izw21, inw21, izw22, inw22, izw23, inw23, izw24, inw24⟩ : Zc6 w2 w.heap.size op rd rs1 rs2 im ln := zq171
 have c42 := hx2.c42
 rw [hmp] at c42
 have hx3 := hx2.alloc (.cells #[.int .i64 op, .int .i64 rd, .int .i64 rs1, .int .i64 rs2, .int .i64 im, .int .i64 ln] 60)
 have hl2 := hx2.lt
 go_upto_region 9 with (go_at_call 134; refine (WC.out _).mono ?_; rintro o w5 ⟨rfl, rfl⟩)
 go_region_with (first | (go_at_call 280; refine (CH.out _).mono ?_; rintro o w5 ⟨rfl, rfl⟩) | (go_at_call 279; refine (CW.out _ (hide1 hx3.drew)).mono ?_; rintro o w3 ⟨rfl, hx4, hk3⟩))
 all_goals
  go_wp2_with fail
  go_end0
  refine ⟨rfl, hx4, ?_⟩
  repeat (first | (with_reducible exact Kept.refl _ _) | (with_reducible refine Kept.setM ?_ _ _) | (with_reducible refine Kept.setCell ?_ (Or.inr zq492) _) | (with_reducible refine Kept.drew ?_) | (with_reducible refine Kept.drewN ?_ _) | (with_reducible refine Kept.alloc ?_ _) | (with_reducible refine Kept.trans ?_ (hk3.mono (by simp))) | (with_reducible refine Kept.trans ?_ (hk2.mono (by simp))) | (with_reducible refine Kept.trans ?_ (hk1.mono (by simp))))) : p := h
theorem zq465 {p : Prop} (h : p := by
 cases t6
 . exact zq311
 . cases t7
   . exact zq311
   . exact zq311) : p := h
theorem zq466 {p : Prop} (h : p := by
 have ql66 : decide (op <= 66) = true := by simp; omega
 have ql70 : decide (op <= 70) = true := by simp; omega
 have qe38 : (op == 38) = false := by simp; omega
 have qe39 : (op == 39) = false := by simp; omega
 have qe40 : (op == 40) = false := by simp; omega
 have qe41 : (op == 41) = false := by simp; omega
 clear hX hi hY hop hw
 go_enter func133, ntmps133
 go_wp2_with (first | (go_at_call 195; refine (HR.out _).mono ?_; rintro o w5 ⟨rfl, rfl⟩) | (go_at_call 192; refine (IB.out _).mono ?_; rintro o w5 ⟨rfl, rfl⟩))
 refine (LD.out _ hwa).mono ?_
 rintro o w1 ⟨rfl, hx1, hk1⟩
 obtain ⟨ic0w1, ic1w1, ic2w1, ic3w1, ic4w1, ic5w1, ifw1, izw1, izw11, inw11, izw12, inw12, izw13, inw13, izw14, inw14⟩ : Zc6 w1 w.heap.size op rd rs1 rs2 im ln := zq168
 obtain ⟨rc0w1, rc1w1, rfw1, rzw1, rzw11, rnw11, rzw12, rnw12, rzw13, rnw13, rzw14, rnw14⟩ : Zc2 w1 (w.heap.size + 1) 0 0 := zq167
 go_wp2_with fail
 refine bodyPost_ret (v := .agg #[.int .i64 c, .int .i64 t]) zq555 rfl ⟨rfl, hx1.box (w.heap.size + 1) ?_ (by omega) (by omega), ?_⟩
 . exact zq273
 . exact zq274) : p := h
theorem zq467 {p : Prop} (h : p := by
 go_enter func133, ntmps133
 go_wp2_with (first | (first | (go_at_call 195; refine (HR.out _).mono ?_; rintro o w5 ⟨rfl, rfl⟩) | (go_at_call 192; refine (IB.out _).mono ?_; rintro o w5 ⟨rfl, rfl⟩)) | (go_at_call 198; refine (x_fine _).mono ?_; rintro o wn ⟨rfl, rfl⟩))
 refine bodyPost_ret (v := .agg #[.int .i64 (-1), .int .i64 0]) zq524 rfl ⟨rfl, ?_, ?_⟩
 . exact zq315
 . exact zq316) : p := h
theorem zq468 {p : Prop} (h : p := by
 go_wp2_with (first | (go_at_call 195; refine (HR.out _).mono ?_; rintro o w5 ⟨rfl, rfl⟩) | (go_at_call 192; refine (IB.out _).mono ?_; rintro o w5 ⟨rfl, rfl⟩))
 refine (RS.out _ hwa).mono ?_
 rintro o w1 ⟨rfl, hk1⟩
 have hx1 := hide1 (hwa.out.kept hk1)
 obtain ⟨ic0w1, ic1w1, ic2w1, ic3w1, ic4w1, ic5w1, ifw1, izw1, izw11, inw11, izw12, inw12, izw13, inw13, izw14, inw14⟩ : Zc6 w1 w.heap.size op rd rs1 rs2 im ln := zq168
 obtain ⟨rc0w1, rc1w1, rfw1, rzw1, rzw11, rnw11, rzw12, rnw12, rzw13, rnw13, rzw14, rnw14⟩ : Zc2 w1 (w.heap.size + 1) 0 0 := zq167
 go_wp2_with fail
 refine (SR.out _ hx1).mono ?_
 rintro o w2 ⟨rfl, hx2, hk2⟩
 obtain ⟨ic0w2, ic1w2, ic2w2, ic3w2, ic4w2, ic5w2, ifw2, izw2, izw21, inw21, izw22, inw22, izw23, inw23, izw24, inw24⟩ : Zc6 w2 w.heap.size op rd rs1 rs2 im ln := zq171
 obtain ⟨rc0w2, rc1w2, rfw2, rzw2, rzw21, rnw21, rzw22, rnw22, rzw23, rnw23, rzw24, rnw24⟩ : Zc2 w2 (w.heap.size + 1) 0 0 := ⟨zq113, zq113, zq114, zz4 zq62⟩
 go_wp2_with (go_at_call 198; refine (x_fine _).mono ?_; rintro o wn ⟨rfl, rfl⟩)
 refine bodyPost_ret (v := .agg #[.int .i64 (-1), .int .i64 0]) (by simp [results, results133, go_sem, rc0w2, rc1w2, rzw2, rzw21, rnw21, rzw22, rnw22, rzw23, rnw23, rzw24, rnw24, Nat.ne_of_lt, Nat.ne_of_gt]) rfl ⟨rfl, hx2.box (w.heap.size + 1) ?_ (by omega) (by omega), ?_⟩
 . exact zq273
 . exact zq271) : p := h
theorem zq469 {p : Prop} (h : p := by
 refine bodyPost_ret (v := .tuple #[lnA ⟨#[]⟩ ins0 ⟨#[]⟩, .int .i64 5]) zq537 rfl ⟨by rw [hT.out] <;> rfl, ?_⟩
 exact zq357) : p := h
theorem zq470 {p : Prop} (h : p := by
 subst hz
 clear HR
 go_wp2_with fail
 refine (HRW.out _).mono ?_
 rintro e w1 ⟨rfl, rfl⟩
 go_wp2
 exact zq469) : p := h
theorem zq471 {p : Prop} (h : p := by exact ⟨rfl, rfl⟩) : p := h
theorem zq472 {p : Prop} (h : p := by
 have K1 := hide1 (K0.out.trans hk)
 clear hm hk M0 K0
 exact zq373) : p := h
theorem zq473 {p : Prop} (h : p := by
 have HR := hide1 hr
 clear hr hX ht
 go_enter func216, ntmps216
 go_wp2_with (go_at_call 213; refine (HR.out _ (HT.out _)).mono ?_; rintro e w1 ⟨rfl, hb1⟩)
 go_ret
 exact ⟨rfl, (hbw _).trans (hb1.mono (hbw _).size)⟩) : p := h
theorem zq474 {p : Prop} (h : p := by
 go_quiet (fail)
 all_goals
  go_wp2_with fail
  go_meet
  case rel => exact ⟨rfl, hide1 (s.out.drewN _)⟩) : p := h
theorem zq475 {p : Prop} (h : p := by
 go_wp2_with fail
 all_goals
  go_meet
  case rel => exact zq471) : p := h
theorem zq476 {p : Prop} (h : p := by
 as_aux_lemma =>
  go_wp2_with fail
  all_goals
   go_meet
   case rel => exact ⟨congrArg (fun x => Value.int .i64 x) e1.out, rfl⟩) : p := h
theorem zq477 {p : Prop} (h : p := by
 go_quiet (fail)
 all_goals
  go_wp2_with fail
  go_ret
  exact ⟨rfl, (s3.out.drewN _).2.2.2⟩) : p := h
theorem zq478 {p : Prop} (h : p := by
 go_upto_region 3 with fail
 go_quiet (fail)
 all_goals
  go_upto_region 4 with fail
  go_quiet (fail)
  all_goals
   go_wp2_with fail
   go_ret
   exact ⟨rfl, ((Kept.refl _ _).alloc _).drewN _⟩) : p := h
theorem zq479 {p : Prop} (h : p := by
 go_roundw
 case rel => exact ⟨i + 1, by omega, by go_num, I7⟩
 case measure => simp [intOf]; omega) : p := h
theorem zq480 {p : Prop} (h : p := by
 have i1 := s.out.i.cell 1 _ rfl
 have i2 := s.out.i.cell 2 _ rfl
 have i3 := s.out.i.cell 3 _ rfl
 have i4 := s.out.i.cell 4 _ rfl
 have i5 := s.out.i.cell 5 _ rfl
 have il := s.out.i.lt
 have d0 := s.out.d.cell 0 _ rfl
 have d1 := s.out.d.cell 1 _ rfl
 have dl := s.out.d.lt
 exact zq481) : p := h
theorem zq481 {p : Prop} (h : p := by
 have f13 := s.out.f.cell 13 _ rfl
 exact zq488) : p := h
theorem zq482 {p : Prop} (h : p := by
 have q1 : (k == 1) = false := by simp [hk1]
 have qP : ((P.length : Int) == 0) = false := zq147
 have L0 := hide1 (hL.out.keep k0)
 have OB0 := hide1 (BoxF.new w [.int .i64 k, .int .i64 a, .int .i64 b, .int .i64 c, .string s] 36)
 have hl := hL.out.lt
 have hl' : ¬ wb = w.heap.size := by omega
 have lP : Hid (∀ i (h : i < P.length), P[i].mb < w.heap.size /\ P[i].rb < w.heap.size) := zq148
 obtain ⟨j, hj, pk⟩ := k_pickE a ha0 ha1 P.length hP0 (by omega)
 have PK := fun W => hide1 (pk W)
 have K0 := hide1 k0
 clear k0 ha0 ha1 hb0 hb1 hx ht pk
 go_enter func17, ntmps17
 go_wp2_with fail
 refine LA.out.mono ?_
 rintro o w1 ⟨⟨r, rfl, hr⟩, hk⟩
 have L1 := hide1 (L0.out.keep hk)
 have OB1 := hide1 (OB0.out.kept hk)
 have K1 := hide1 (K0.out.trans hk)
 have sl := hk.size
 clear LA hk L0 OB0 K0
 cases r
 . go_wp2_with fail
   exact zq483
 clear hr
 have d0 := L1.out.c0
 have e0 := (L1.out.keep (Kept.refl [] w1).drew).c0
 have o1 := (OB1.out.drew).cell 1 _ rfl
 have e1 : w1.drew.cell? ⟨g, j, none⟩ = some (.pointer (some ⟨P[j].mb, 0, none⟩)) := by
  rw [(L1.out.keep (Kept.refl [] w1).drew).ox.cellAt j (by omega)]
  simp [ptrs, hj]
 have hjj : (0 : Int) <= (j : Int) /\ (j : Int) < (P.length : Int) := by omega
 obtain ⟨p, hp⟩ := zn1 (P[j])
 rw [<- hp] at e1
 have HP := hide1 hp
 clear hp
 go_upto_region 11 with fail
 go_region_held3 (fun w' => w'.cell? ⟨w.heap.size, 1, none⟩ = some (.int .i64 a) /\ w'.cell? ⟨wb, 0, none⟩ = some (.slice (some ⟨g, 0, none⟩) P.length cap) /\ w'.cell? ⟨g, j, none⟩ = some (.pointer (some ⟨p.mb, 0, none⟩))) (first | exact ⟨o1, e0, e1⟩ | go_keep) (first | (go_at_call 28; refine (PK _).out.mono ?_; rintro e w2 ⟨rfl, rfl⟩))
 all_goals
  obtain ⟨W0, hW0⟩ := zn1 (w1.drew)
  have L2 := hide1 (L1.out.keep (Kept.refl [] w1).drew)
  have K2 := hide1 (K1.out.drew)
  have OB2 := hide1 (OB1.out.drew)
  rw [<- hW0] at L2 K2 OB2 o1 e0 e1 |-
  have o0 := OB2.out.cell 0 _ rfl
  have o2 := OB2.out.cell 2 _ rfl
  have o3 := OB2.out.cell 3 _ rfl
  have o4 := OB2.out.cell 4 _ rfl
  have p0 := L2.out.pr j hj
  have HW := hide1 hW0
  have G0 := L2.out.ge j hj
  rw [<- HP.out] at p0 G0
  have AA := AC p W0 p0
  have P0 := hide1 p0
  have GE := hide1 G0
  clear p0 AC PK hW0 L1 OB1 K1 d0 G0 e1
  go_wp2_with fail
  refine AA.out.mono ?_
  rintro e w3 ⟨⟨r, rfl, hr⟩, hm, hk⟩
  have L3 : Hid (Kw w3 wb P (.slice (some ⟨g, 0, none⟩) P.length cap)) := by
   rw [HP.out] at hm hk
   exact hide1 (L2.out.act j hj hm hk)
  have B3 : Hid (Below wb w w3) := hide1 ((kept_below K2.out (by simp) (by omega)).trans (kept_below hk (by simp; have := GE.out; omega) (Nat.le_of_lt L2.out.lt)))
  clear AA hm hk
  go_wp2_with fail
  go_ret
  exact ⟨⟨r, rfl, hr⟩, ⟨P, _, L3.out, by omega⟩, B3.out⟩) : p := h
theorem zq483 {p : Prop} (h : p := by
 go_ret
 exact ⟨⟨false, rfl, hide1 (fun h => hr.out (by omega))⟩, ⟨P, _, L1.out, by omega⟩, kept_below K1.out (by simp) (by omega)⟩) : p := h
theorem zq485 {p : Prop} (h : p := by
 go_wp2_with (go_at_call 378; refine PM.out.mono ?_; rintro e w1 ⟨rfl, rfl⟩)
 go_ret
 exact ⟨by rw [HT.out] <;> rfl, rfl⟩) : p := h
theorem zq486 {p : Prop} (h : p := by
 rintro o w4 ⟨rfl, hx4, hk4⟩
 obtain ⟨rc0w4, rc1w4, rfw4, rzw4, rzw41, rnw41, rzw42, rnw42, rzw43, rnw43, rzw44, rnw44⟩ : Zc2 w4 (w.heap.size + 1) 0 0 := zq165
 go_wp2_with (first | (go_at_call 198; refine (x_fine _).mono ?_; rintro o wn ⟨rfl, rfl⟩))
 refine bodyPost_ret (v := .agg #[.int .i64 (-1), .int .i64 0]) (by simp [results, results199, go_sem, rc0w4, rc1w4, rzw4, rzw41, rnw41, rzw42, rnw42, rzw43, rnw43, rzw44, rnw44, Nat.ne_of_lt, Nat.ne_of_gt]) rfl ⟨rfl, hx4.box (w.heap.size + 1) ?_ (by omega) (by omega), ?_⟩
 . exact zq273
 . exact zq330) : p := h
theorem zq487 {p : Prop} (h : p := by
 go_ret2
 refine ⟨rfl, ?_⟩
 exact zq316) : p := h
theorem zq488 {p : Prop} (h : p := by
 have g13 := s.out.g.cell 13 _ rfl
 have fl := s.out.f.lt
 have gl := s.out.g.lt
 go_upto_region 37 with fail
 go_cut [138] (fun q wx => q = .bool false /\ Hid (Wv w fb gb ib db mb rb Y f g a0 a1 a2 a3 a4 a5 _ c wx))
 case first =>
  as_aux_lemma =>
   exact zq474
 case rest =>
 obtain ⟨rfl, s1⟩ := hcut
 clear s f13 g13 fl gl i0 i1 i2 i3 i4 i5 il d0 d1 dl
 go_wp2_with fail
 refine (WA.out _ (hide1 s1.out.f) (hide1 s1.out.g)).mono ?_
 rintro o w7 ⟨rfl, hk⟩
 replace s1 := hide1 (s1.out.kept hk)
 clear hk
 go_wp2_with fail
 go_ret
 exact TP.out _ s1.out.m s1.out.kp) : p := h
theorem zq490 {p : Prop} (h : p := by unfold maxLen; omega) : p := h
theorem zq491 {p : Prop} (h : p := by simp [results, results344, go_sem, tmrA]) : p := h
theorem zq492 {p : Prop} (h : p := by simp <;> omega) : p := h
theorem zq493 {p : Prop} (h : p := by repeat (first | (with_reducible exact Kept.refl _ _) | (with_reducible refine Kept.setCell ?_ (Or.inr (by simp <;> omega)) _) | (with_reducible refine Kept.drew ?_) | (with_reducible refine Kept.alloc ?_ _) | (with_reducible refine Kept.trans ?_ (Below.kept hb1 _)))) : p := h
theorem zq494 {p : Prop} (h : p := by repeat (first | (with_reducible exact Kept.refl _ _) | (with_reducible refine Kept.setCell ?_ (Or.inr (by simp <;> omega)) _) | (with_reducible refine Kept.drew ?_) | (with_reducible refine Kept.alloc ?_ _))) : p := h
theorem zq495 {p : Prop} (h : p := by (try simp); (try rw [alloc_ne _ _ _ _ (by simp <;> omega)]); (try simp)) : p := h
theorem zq496 {p : Prop} (h : p := by simp [results, results345, go_sem]) : p := h
theorem zq497 {p : Prop} (h : p := by simp [results, results343, go_sem]) : p := h
theorem zq498 {p : Prop} (h : p := by repeat (first | (with_reducible exact Kept.refl _ _) | (with_reducible refine Kept.setCell ?_ (Or.inr (by simp <;> omega)) _) | (with_reducible refine Kept.drew ?_) | (with_reducible refine Kept.alloc ?_ _) | (with_reducible refine Kept.trans ?_ hk1))) : p := h
theorem zq499 {p : Prop} (h : p := by simp [results, results377, go_sem]) : p := h
theorem zq500 {p : Prop} (h : p := by repeat (first | (with_reducible exact Kept.refl _ _) | (with_reducible refine Kept.setCell ?_ (Or.inr (by simp <;> omega)) _) | (with_reducible refine Kept.drew ?_) | (with_reducible refine Kept.alloc ?_ _) | (with_reducible refine Kept.trans ?_ hk1) | (with_reducible exact hk1))) : p := h
theorem zq501 {p : Prop} (h : p := by simp [results, results332, go_sem]) : p := h
theorem zq502 {p : Prop} (h : p := by simp [results, results260, go_sem, k1, hz, Nat.ne_of_lt, Nat.ne_of_gt]) : p := h
theorem zq503 {p : Prop} (h : p := by simp [results, results191, go_sem, rc0w1, rc1w1, rzw1, Nat.ne_of_lt, Nat.ne_of_gt]) : p := h
theorem zq504 {p : Prop} (h : p := by simp [results, results131, go_sem, rc0w2, rc1w2, rzw2, Nat.ne_of_lt, Nat.ne_of_gt]) : p := h
theorem zq505 {p : Prop} (h : p := by simp [results, results131, go_sem, rc0w1, rc1w1, rzw1, Nat.ne_of_lt, Nat.ne_of_gt]) : p := h
theorem zq506 {p : Prop} (h : p := by simp [results, results339, go_sem, pc0w1, pc1w1, rc0w1, rc1w1, pzw1, rzw1, Nat.ne_of_lt, Nat.ne_of_gt]) : p := h
theorem zq507 {p : Prop} (h : p := by simp [results, results267, go_sem, pc0w1, pc1w1, qc0w1, qc1w1, rc0w1, rc1w1, pzw1, qzw1, rzw1, pzw11, pnw11, pzw12, pnw12, pzw13, pnw13, pzw14, pnw14, qzw11, qnw11, qzw12, qnw12, qzw13, qnw13, qzw14, qnw14, rzw11, rnw11, rzw12, rnw12, rzw13, rnw13, rzw14, rnw14, Nat.ne_of_lt, Nat.ne_of_gt]) : p := h
theorem zq508 {p : Prop} (h : p := by simp [results, results267, go_sem, pc0w2, pc1w2, qc0w2, qc1w2, rc0w2, rc1w2, pzw2, qzw2, rzw2, pzw21, pnw21, pzw22, pnw22, pzw23, pnw23, pzw24, pnw24, qzw21, qnw21, qzw22, qnw22, qzw23, qnw23, qzw24, qnw24, rzw21, rnw21, rzw22, rnw22, rzw23, rnw23, rzw24, rnw24, Nat.ne_of_lt, Nat.ne_of_gt]) : p := h
theorem zq509 {p : Prop} (h : p := by repeat (first | (with_reducible exact hw.out) | (with_reducible refine XAt.alloc ?_ _) | (with_reducible refine XAt.drew ?_))) : p := h
theorem zq510 {p : Prop} (h : p := by first | rw [HW1.out, HWP.out, HWN.out, Int.natCast_add] | rw [HW1.out, HWN.out, Int.natCast_add]) : p := h
theorem zq511 {p : Prop} (h : p := by simp [results, results206, go_sem, rowV, hc, hz]) : p := h
theorem zq512 {p : Prop} (h : p := by simp [results, results207, go_sem, rowV, hc, hz]) : p := h
theorem zq513 {p : Prop} (h : p := by simp [results, results138, go_sem, rowV, hc, hz]) : p := h
theorem zq514 {p : Prop} (h : p := by simp [results, results139, go_sem, y0, y1, y2, y3, y4, y5]) : p := h
theorem zq515 {p : Prop} (h : p := by rw [show (X.withB (readD B pa1 n1).2).b = (readD B pa1 n1).2 from rfl, r1len]; exact htk.2 h2) : p := h
theorem zq516 {p : Prop} (h : p := by have := Int.natCast_nonneg (v * 256 ^ n1); exact Int.le_trans (by decide) this) : p := h
theorem zq517 {p : Prop} (h : p := by have : v * 256 ^ n1 <= u + v * 256 ^ n1 := Nat.le_add_left _ _; have h3 : v * 256 ^ n1 < 4294967296 := Nat.lt_of_le_of_lt this hp; generalize v * 256 ^ n1 = z at h3; omega) : p := h
theorem zq518 {p : Prop} (h : p := by simp [results, results200, go_sem, rc0w3, rc1w3, rzw3, rzw31, rnw31, rzw32, rnw32, rzw33, rnw33, rzw34, rnw34, Nat.ne_of_lt, Nat.ne_of_gt]) : p := h
theorem zq519 {p : Prop} (h : p := by rw [info71, HCS.out]; rfl) : p := h
theorem zq520 {p : Prop} (h : p := by rw [hsz]; exact alloc_there w #[.int .i64 0, .int .i64 0, .int .i64 0, .int .i64 0, .int .i64 0, .int .i64 0, .int .i64 0, .int .i64 0, .int .i64 0, .int .i64 0, .int .i64 0, .int .i64 0, .int .i64 0, .int .i64 0, .int .i64 0, .int .i64 0, .int .i64 0, .int .i64 0, .int .i64 0, .int .i64 0, .int .i64 0, .int .i64 0, .int .i64 0] 71) : p := h
theorem zq521 {p : Prop} (h : p := by rw [info71, hsz]) : p := h
theorem zq522 {p : Prop} (h : p := by rw [HCS.out]; simp [csL, Value.oneCell']) : p := h
theorem zq523 {p : Prop} (h : p := by (repeat (first | (with_reducible exact Kept.refl _ _) | (with_reducible refine Kept.setCell ?_ (Or.inr (by simp <;> omega)) _) | (with_reducible refine Kept.drew ?_) | (with_reducible refine Kept.drewN ?_ _) | (with_reducible refine Kept.alloc ?_ _)))) : p := h
theorem zq524 {p : Prop} (h : p := by simp [results, results133, go_sem, Nat.ne_of_lt, Nat.ne_of_gt]) : p := h
theorem zq525 {p : Prop} (h : p := by simp [results, results81, go_sem, *]) : p := h
theorem zq526 {p : Prop} (h : p := by dsimp only; decide) : p := h
theorem zq527 {p : Prop} (h : p := by simp [results, results37, go_sem, *]) : p := h
theorem zq528 {p : Prop} (h : p := by first | omega | (simp <;> omega)) : p := h
theorem zq529 {p : Prop} (h : p := by rw [alloc_nef _ _ _ _ (by first | omega | (simp <;> omega))]; first | assumption | (simp [*]; done)) : p := h
theorem zq530 {p : Prop} (h : p := by rw [alloc_ownf _ _ _ _ _ (by first | omega | (simp <;> omega))]) : p := h
theorem zq531 {p : Prop} (h : p := by simp [hart0L, csr0L, timer0L, port0L, Value.oneCell']) : p := h
theorem zq532 {p : Prop} (h : p := by repeat (first | (with_reducible exact hb.out) | (with_reducible refine XAt.alloc ?_ _) | (with_reducible refine XAt.drew ?_))) : p := h
theorem zq533 {p : Prop} (h : p := by simp [results, results355, go_sem, insO, lnA, ins0]) : p := h
theorem zq534 {p : Prop} (h : p := by simp [results, results356, go_sem, insO, lnA, ins0]) : p := h
theorem zq535 {p : Prop} (h : p := by simp [results, results310, go_sem, insO, lnO, lnA, ins0]) : p := h
theorem zq536 {p : Prop} (h : p := by simp [results, results222, go_sem, lnO, lnA, ins0, z0, z1, z2, z3, z4, z5, z6, z7, zf, zl]) : p := h
theorem zq537 {p : Prop} (h : p := by simp [results, results152, go_sem, lnV, lnA, ins0, ln0]) : p := h
theorem zq538 {p : Prop} (h : p := by simp [results, results152, go_sem, lnV, lnA, ins0, ln0, y0, y1, y2, y3, y4, y5, y6, y7, yf, yl]) : p := h
theorem zq539 {p : Prop} (h : p := by simp; have := HBS.out; omega) : p := h
theorem zq540 {p : Prop} (h : p := by dsimp only; omega) : p := h
theorem zq541 {p : Prop} (h : p := by intro e; cases e) : p := h
theorem zq542 {p : Prop} (h : p := by first | (simp; done) | (simp [*]; done) | ((repeat rw [alloc_ne _ _ _ _ (by first | omega | (simp <;> omega))]); first | assumption | (simp; done) | (simp [*]; done))) : p := h
theorem zq543 {p : Prop} (h : p := by first | (simp; done) | (simp [*]; done) | ((repeat rw [alloc_nef _ _ _ _ (by first | omega | (simp <;> omega))]); first | (simp; done) | (simp [*]; done))) : p := h
theorem zq544 {p : Prop} (h : p := by rw [alloc_ne _ _ _ _ (by first | omega | (simp <;> omega))]; rw [alloc_ne _ _ _ _ (by first | omega | (simp <;> omega))]; rw [alloc_own _ _ _ _ _ (by first | omega | (simp <;> omega))]; rfl) : p := h
theorem zq545 {p : Prop} (h : p := by rw [alloc_nef _ _ _ _ (by first | omega | (simp <;> omega))]; rw [alloc_nef _ _ _ _ (by first | omega | (simp <;> omega))]; rw [alloc_ownf _ _ _ _ _ (by first | omega | (simp <;> omega))]) : p := h
theorem zq546 {p : Prop} (h : p := by rw [alloc_ne _ _ _ _ (by first | omega | (simp <;> omega))]; rw [alloc_own _ _ _ _ _ (by first | omega | (simp <;> omega))]; rfl) : p := h
theorem zq547 {p : Prop} (h : p := by rw [alloc_nef _ _ _ _ (by first | omega | (simp <;> omega))]; rw [alloc_ownf _ _ _ _ _ (by first | omega | (simp <;> omega))]) : p := h
theorem zq548 {p : Prop} (h : p := by rw [alloc_own _ _ _ _ _ (by first | omega | (simp <;> omega))]; rfl) : p := h
theorem zq549 {p : Prop} (h : p := by rw [alloc_ne _ _ _ _ (by first | omega | (simp <;> omega))]; rw [alloc_ne _ _ _ _ (by first | omega | (simp <;> omega))]; rw [alloc_ne _ _ _ _ (by first | omega | (simp <;> omega))]; assumption) : p := h
theorem zq550 {p : Prop} (h : p := by rw [alloc_nef _ _ _ _ (by first | omega | (simp <;> omega))]; rw [alloc_nef _ _ _ _ (by first | omega | (simp <;> omega))]; rw [alloc_nef _ _ _ _ (by first | omega | (simp <;> omega))]; first | assumption | (simp [*]; done)) : p := h
theorem zq551 {p : Prop} (h : p := by first | assumption | (simp [*]; done)) : p := h
theorem zq552 {p : Prop} (h : p := by rw [HCS.out]; rfl) : p := h
theorem zq553 {p : Prop} (h : p := by rw [alloc_ne _ _ _ _ (by first | omega | (simp <;> omega))]; assumption) : p := h
theorem zq554 {p : Prop} (h : p := by first | assumption | (rw [alloc_ownf _ _ _ _ _ (by simp [World.setCell])]; done) | (simp; done) | (simp [*]; done)) : p := h
theorem zq555 {p : Prop} (h : p := by simp [results, results133, go_sem, rc0w1, rc1w1, rzw1, rzw11, rnw11, rzw12, rnw12, rzw13, rnw13, rzw14, rnw14, Nat.ne_of_lt, Nat.ne_of_gt]) : p := h
theorem zq556 {p : Prop} (h : p := by simp [results, results310, go_sem, insO, lnO, lnA, ins0, z0, z1, z2, z3, z4, z5, z6, z7]) : p := h
end Go.Proofs.YtmlgonbhoknoiabGreatDoor
