import Derived.Test.YtmlgonbhoknoiabGreatDoorYAC
set_option maxHeartbeats 8000000
set_option linter.all false
namespace Go.Proofs.YtmlgonbhoknoiabGreatDoor
open Go.RowKit Go.Proofs.Tryz
section
attribute [local go_sem ↓] Go.wp_at_zero Go.wp_at_succ
def csL (X : XS) : List Value := [.int .i64 X.c.mstatus, .int .i64 X.c.medeleg, .int .i64 X.c.mideleg, .int .i64 X.c.mie, .int .i64 X.c.mip, .int .i64 X.c.mtvec, .int .i64 X.c.mcen, .int .i64 X.c.minh, .int .i64 X.c.mscratch, .int .i64 X.c.mepc, .int .i64 X.c.mcause, .int .i64 X.c.mtval, .int .i64 X.c.stvec, .int .i64 X.c.scen, .int .i64 X.c.sscratch, .int .i64 X.c.sepc, .int .i64 X.c.scause, .int .i64 X.c.stval, .int .i64 X.c.satp, .int .i64 X.c.cyc, .int .i64 X.c.cych, .int .i64 X.c.ret, .int .i64 X.c.reth]
theorem csL_at {w mb rb X} (h : XAt w mb rb X) : w.rangeAt mb 38 (csL X) := by
 intro j v hj
 have hl : j < 23 := by
  have := (List.getElem?_eq_some_iff.1 hj).1
  simpa [csL] using this
 have e : (xL rb X)[38 + j]? = (csL X)[j]? := by
  have h : j = 0 \/ j = 1 \/ j = 2 \/ j = 3 \/ j = 4 \/ j = 5 \/ j = 6 \/ j = 7 \/ j = 8 \/ j = 9 \/ j = 10 \/ j = 11 \/ j = 12 \/ j = 13 \/ j = 14 \/ j = 15 \/ j = 16 \/ j = 17 \/ j = 18 \/ j = 19 \/ j = 20 \/ j = 21 \/ j = 22 := by omega
  rcases h with rfl | rfl | rfl | rfl | rfl | rfl | rfl | rfl | rfl | rfl | rfl | rfl | rfl | rfl | rfl | rfl | rfl | rfl | rfl | rfl | rfl | rfl | rfl <;> rfl
 rw [h.cell (38 + j) (by omega), e, hj]
theorem info71 : (prog.info? 71).map (·.size) = some 23 := by kernel_rfl
theorem alloc_there (w : World) (a : Array Value) (T : Nat) : (w.alloc (.cells a T)).there w.heap.size 0 a.size := by
 intro j hj
 constructor
 . simp [hj]
 . simp
theorem Kept.setCells {F : List Nat} {a : World} (b : Nat) (hb : b ∈ F \/ a.heap.size <= b) : ∀ (vs : List Value) (o : Nat) (w : World), Kept F a w -> Kept F a (w.setCells b o vs)
 | [], o, w, h => h
 | v :: vs, o, w, h => Kept.setCells b hb vs (o + 1) _ (h.setCell hb v)
theorem copy_box (w : World) (z : Array Value) (T : Nat) (cs : Array Value) (h : cs.size = z.size) : ∃ w2, w2 = (w.alloc (.cells z T)).setCells w.heap.size 0 cs.toList /\ w2.rangeAt w.heap.size 0 cs.toList /\ Kept [] w w2 := by
 refine ⟨_, rfl, World.rangeAt_setCells_same _ _ _ _ ?_, Kept.setCells _ (.inr (Nat.le_refl _)) _ _ _ ((Kept.refl _ _).alloc _)⟩
 have := alloc_there w z T
 rw [<- h] at this
 simpa using this
theorem size_setCells (b : Nat) : ∀ (vs : List Value) (o : Nat) (w : World), (w.setCells b o vs).heap.size = w.heap.size
 | [], o, w => rfl
 | v :: vs, o, w => by rw [World.setCells, size_setCells b vs]; simp [World.setCell]
theorem x_readSuper_256 (mb rb X) (hX : XOk X) (w) (hw : Hid (XAt w mb rb X)) :
 CK 304 #[.pointer (some ⟨mb, 0, none⟩), .int .i64 256] (.tuple #[.int .i64 (X.c.mstatus &&& 786722 : Nat), .bool true]) w := by
 have hlt := hw.out.lt
 have hlt' : ¬ mb = w.heap.size := by omega
 have HR := hide1 (csL_at hw.out)
 obtain ⟨cs, hcs⟩ := zn1 (csL X)
 rw [<- hcs] at HR
 have HCS := hide1 hcs
 have hsz : cs.toArray.size = 23 := zq87
 clear hcs
 have hm := hX.mstatus
 have q : bits .and .i64 (X.c.mstatus : Int) 786722 = ((X.c.mstatus &&& 786722 : Nat) : Int) := b_and X.c.mstatus 786722 (by omega) (by omega)
 exact zq283
theorem x_readSuper_260 (mb rb X) (hX : XOk X) (w) (hw : Hid (XAt w mb rb X)) :
 CK 304 #[.pointer (some ⟨mb, 0, none⟩), .int .i64 260] (.tuple #[.int .i64 (X.c.mie &&& X.c.mideleg : Nat), .bool true]) w := by
 have hlt := hw.out.lt
 have hlt' : ¬ mb = w.heap.size := by omega
 have HR := hide1 (csL_at hw.out)
 obtain ⟨cs, hcs⟩ := zn1 (csL X)
 rw [<- hcs] at HR
 have HCS := hide1 hcs
 have hsz : cs.toArray.size = 23 := zq87
 clear hcs
 have hm := hX.mie
 have hd := hX.mideleg
 have q := b_and X.c.mie X.c.mideleg (by omega) (by omega)
 exact zq283
theorem x_readSuper_261 (mb rb X) (hX : XOk X) (w) (hw : Hid (XAt w mb rb X)) :
 CK 304 #[.pointer (some ⟨mb, 0, none⟩), .int .i64 261] (.tuple #[.int .i64 (X.c.stvec : Nat), .bool true]) w := zq284
theorem x_readSuper_262 (mb rb X) (hX : XOk X) (w) (hw : Hid (XAt w mb rb X)) :
 CK 304 #[.pointer (some ⟨mb, 0, none⟩), .int .i64 262] (.tuple #[.int .i64 (X.c.scen : Nat), .bool true]) w := zq284
theorem x_readSuper_320 (mb rb X) (hX : XOk X) (w) (hw : Hid (XAt w mb rb X)) :
 CK 304 #[.pointer (some ⟨mb, 0, none⟩), .int .i64 320] (.tuple #[.int .i64 (X.c.sscratch : Nat), .bool true]) w := zq284
theorem x_readSuper_321 (mb rb X) (hX : XOk X) (w) (hw : Hid (XAt w mb rb X)) :
 CK 304 #[.pointer (some ⟨mb, 0, none⟩), .int .i64 321] (.tuple #[.int .i64 (X.c.sepc : Nat), .bool true]) w := zq284
theorem x_readSuper_322 (mb rb X) (hX : XOk X) (w) (hw : Hid (XAt w mb rb X)) :
 CK 304 #[.pointer (some ⟨mb, 0, none⟩), .int .i64 322] (.tuple #[.int .i64 (X.c.scause : Nat), .bool true]) w := zq284
theorem x_readSuper_323 (mb rb X) (hX : XOk X) (w) (hw : Hid (XAt w mb rb X)) :
 CK 304 #[.pointer (some ⟨mb, 0, none⟩), .int .i64 323] (.tuple #[.int .i64 (X.c.stval : Nat), .bool true]) w := zq284
theorem x_readSuper_384 (mb rb X) (hX : XOk X) (w) (hw : Hid (XAt w mb rb X)) :
 CK 304 #[.pointer (some ⟨mb, 0, none⟩), .int .i64 384] (.tuple #[.int .i64 (X.c.satp : Nat), .bool true]) w := zq284
theorem x_readSuper_324 (mb rb X) (hX : XOk X) (w) (hw : Hid (XAt w mb rb X)) :
 CK 304 #[.pointer (some ⟨mb, 0, none⟩), .int .i64 324] (.tuple #[.int .i64 (penD X &&& X.c.mideleg : Nat), .bool true]) w := by
 have hlt := hw.out.lt
 have hrlt := hw.out.rlt
 have hlt' : ¬ mb = w.heap.size := by omega
 have HR := hide1 (csL_at hw.out)
 obtain ⟨cs, hcs⟩ := zn1 (csL X)
 rw [<- hcs] at HR
 have HCS := hide1 hcs
 have hsz : cs.toArray.size = 23 := zq87
 clear hcs
 have hd := hX.mideleg
 have hp := pen_lt X hX
 have q := b_and (penD X) X.c.mideleg (by omega) (by omega)
 have PE := hide1 (fun W h => x_pending mb rb X hX W h)
 obtain ⟨p, hpe⟩ := zn1 (penD X)
 simp only [<- hpe] at PE q |-
 obtain ⟨r, hr⟩ := zn1 (p &&& X.c.mideleg)
 rw [<- hr] at q |-
 clear hX hpe hr hp hd
 go_enter func304, ntmps304
 go_upto_region 1 with fail
 refine wp_region_lit ?_
 refine wpList_plain rfl (fun K hK => ?_)
 go_simp
 refine hK _ _ ?_
 clear hK K
 refine wpList_plain rfl (fun K hK => ?_)
 go_simp
 refine hK _ _ ?_
 clear hK K
 refine wpList_plain rfl (fun K hK => ?_)
 go_simp
 refine hK _ _ ?_
 clear hK K
 refine wpList_load_mid rfl _ _ rfl mb 38 (by rfl) cs _ HR.out Tryz.underlying71 rfl zq518 ?_
 refine wpList_plain rfl (fun K hK => ?_)
 go_simp
 refine hK _ _ ?_
 clear hK K
 refine wpList_store_mid rfl _ _ _ rfl w.heap.size 0 cs.toArray rfl rfl zq519 zq520 zq521 ?_
 obtain ⟨w2, hw2, hr2, hk2⟩ := copy_box w (#[.int .i64 0, .int .i64 0, .int .i64 0, .int .i64 0, .int .i64 0, .int .i64 0, .int .i64 0, .int .i64 0, .int .i64 0, .int .i64 0, .int .i64 0, .int .i64 0, .int .i64 0, .int .i64 0, .int .i64 0, .int .i64 0, .int .i64 0, .int .i64 0, .int .i64 0, .int .i64 0, .int .i64 0, .int .i64 0, .int .i64 0]) 71 cs.toArray hsz
 rw [<- hw2]
 have hz2 : w.heap.size < w2.heap.size := zq88
 clear hw2
 have d0 : w2.cell? ⟨w.heap.size, 0, none⟩ = some (.int .i64 X.c.mstatus) := zq89
 have d1 : w2.cell? ⟨w.heap.size, 1, none⟩ = some (.int .i64 X.c.medeleg) := zq90
 have d2 : w2.cell? ⟨w.heap.size, 2, none⟩ = some (.int .i64 X.c.mideleg) := zq91
 have d3 : w2.cell? ⟨w.heap.size, 3, none⟩ = some (.int .i64 X.c.mie) := zq92
 have d4 : w2.cell? ⟨w.heap.size, 4, none⟩ = some (.int .i64 X.c.mip) := zq93
 have d5 : w2.cell? ⟨w.heap.size, 5, none⟩ = some (.int .i64 X.c.mtvec) := zq94
 have d6 : w2.cell? ⟨w.heap.size, 6, none⟩ = some (.int .i64 X.c.mcen) := zq95
 have d7 : w2.cell? ⟨w.heap.size, 7, none⟩ = some (.int .i64 X.c.minh) := zq96
 have d8 : w2.cell? ⟨w.heap.size, 8, none⟩ = some (.int .i64 X.c.mscratch) := zq97
 have d9 : w2.cell? ⟨w.heap.size, 9, none⟩ = some (.int .i64 X.c.mepc) := zq98
 have d10 : w2.cell? ⟨w.heap.size, 10, none⟩ = some (.int .i64 X.c.mcause) := zq99
 have d11 : w2.cell? ⟨w.heap.size, 11, none⟩ = some (.int .i64 X.c.mtval) := zq100
 have d12 : w2.cell? ⟨w.heap.size, 12, none⟩ = some (.int .i64 X.c.stvec) := zq101
 have d13 : w2.cell? ⟨w.heap.size, 13, none⟩ = some (.int .i64 X.c.scen) := zq102
 have d14 : w2.cell? ⟨w.heap.size, 14, none⟩ = some (.int .i64 X.c.sscratch) := zq103
 have d15 : w2.cell? ⟨w.heap.size, 15, none⟩ = some (.int .i64 X.c.sepc) := zq104
 have d16 : w2.cell? ⟨w.heap.size, 16, none⟩ = some (.int .i64 X.c.scause) := zq105
 have d17 : w2.cell? ⟨w.heap.size, 17, none⟩ = some (.int .i64 X.c.stval) := zq106
 have d18 : w2.cell? ⟨w.heap.size, 18, none⟩ = some (.int .i64 X.c.satp) := zq107
 have d19 : w2.cell? ⟨w.heap.size, 19, none⟩ = some (.int .i64 X.c.cyc) := zq108
 have d20 : w2.cell? ⟨w.heap.size, 20, none⟩ = some (.int .i64 X.c.cych) := zq109
 have d21 : w2.cell? ⟨w.heap.size, 21, none⟩ = some (.int .i64 X.c.ret) := zq110
 have d22 : w2.cell? ⟨w.heap.size, 22, none⟩ = some (.int .i64 X.c.reth) := zq111
 clear hr2
 refine wpList_nil ?_
 have hx2 := hw.out.kept hk2
 go_upto_region 20 with fail
 go_region_held3 (fun w' => w'.cell? ⟨w.heap.size, 2, none⟩ = some (.int .i64 X.c.mideleg)) (first | go_keep | exact (hk1.cell (p := ⟨w.heap.size, 2, none⟩) hz2 (by simp)).trans d2) (first | (go_at_call 126; refine (PE.out _ (hide1 hx2.drew)).mono ?_; rintro o w1 ⟨rfl, hk1⟩))
 all_goals
  go_wp2_with fail
  go_ret2
  exact ⟨rfl, (hk2.trans (Kept.refl _ _).drew).trans hk1⟩
theorem x_readSuper_no (mb rb : Nat) (X : XS) (n : Int) (q256 : (n == 256) = false) (q260 : (n == 260) = false) (q261 : (n == 261) = false) (q262 : (n == 262) = false) (q320 : (n == 320) = false) (q321 : (n == 321) = false) (q322 : (n == 322) = false) (q323 : (n == 323) = false) (q324 : (n == 324) = false) (q384 : (n == 384) = false) (w) (hw : Hid (XAt w mb rb X)) :
 CK 304 #[.pointer (some ⟨mb, 0, none⟩), .int .i64 n] (.tuple #[.int .i64 0, .bool false]) w := by
 have hlt := hw.out.lt
 have hlt' : ¬ mb = w.heap.size := by omega
 have HR := hide1 (csL_at hw.out)
 obtain ⟨cs, hcs⟩ := zn1 (csL X)
 rw [<- hcs] at HR
 have HCS := hide1 hcs
 have hsz : cs.toArray.size = 23 := zq87
 clear hcs
 clear hw
 exact zq285
def supD (X : XS) (n : Int) : Nat × Bool :=
 if n = 256 then (X.c.mstatus &&& 786722, true) else if n = 260 then (X.c.mie &&& X.c.mideleg, true) else if n = 261 then (X.c.stvec, true) else if n = 262 then (X.c.scen, true) else if n = 320 then (X.c.sscratch, true) else if n = 321 then (X.c.sepc, true) else if n = 322 then (X.c.scause, true) else if n = 323 then (X.c.stval, true) else if n = 324 then (penD X &&& X.c.mideleg, true) else if n = 384 then (X.c.satp, true) else (0, false)
theorem x_readSuper (mb rb X) (hX : XOk X) (n : Int) (w) (hw : Hid (XAt w mb rb X)) :
 CK 304 #[.pointer (some ⟨mb, 0, none⟩), .int .i64 n] (.tuple #[.int .i64 ((supD X n).1 : Nat), .bool (supD X n).2]) w := by
 by_cases h256 : n = 256
 . subst h256; exact x_readSuper_256 mb rb X hX w hw
 by_cases h260 : n = 260
 . subst h260; exact x_readSuper_260 mb rb X hX w hw
 by_cases h261 : n = 261
 . subst h261; exact x_readSuper_261 mb rb X hX w hw
 by_cases h262 : n = 262
 . subst h262; exact x_readSuper_262 mb rb X hX w hw
 by_cases h320 : n = 320
 . subst h320; exact x_readSuper_320 mb rb X hX w hw
 by_cases h321 : n = 321
 . subst h321; exact x_readSuper_321 mb rb X hX w hw
 by_cases h322 : n = 322
 . subst h322; exact x_readSuper_322 mb rb X hX w hw
 by_cases h323 : n = 323
 . subst h323; exact x_readSuper_323 mb rb X hX w hw
 by_cases h324 : n = 324
 . subst h324; exact x_readSuper_324 mb rb X hX w hw
 by_cases h384 : n = 384
 . subst h384; exact x_readSuper_384 mb rb X hX w hw
 rw [show supD X n = (0, false) by unfold supD; simp [h256, h260, h261, h262, h320, h321, h322, h323, h324, h384]]
 exact x_readSuper_no mb rb X n (by simp [h256]) (by simp [h260]) (by simp [h261]) (by simp [h262]) (by simp [h320]) (by simp [h321]) (by simp [h322]) (by simp [h323]) (by simp [h324]) (by simp [h384]) w hw
theorem x_readMach_768 (mb rb X) (hX : XOk X) (w) (hw : Hid (XAt w mb rb X)) :
 CK 305 #[.pointer (some ⟨mb, 0, none⟩), .int .i64 768] (.tuple #[.int .i64 (X.c.mstatus : Nat), .bool true]) w := zq286
theorem x_readMach_770 (mb rb X) (hX : XOk X) (w) (hw : Hid (XAt w mb rb X)) :
 CK 305 #[.pointer (some ⟨mb, 0, none⟩), .int .i64 770] (.tuple #[.int .i64 (X.c.medeleg : Nat), .bool true]) w := zq286
theorem x_readMach_771 (mb rb X) (hX : XOk X) (w) (hw : Hid (XAt w mb rb X)) :
 CK 305 #[.pointer (some ⟨mb, 0, none⟩), .int .i64 771] (.tuple #[.int .i64 (X.c.mideleg : Nat), .bool true]) w := zq286
theorem x_readMach_772 (mb rb X) (hX : XOk X) (w) (hw : Hid (XAt w mb rb X)) :
 CK 305 #[.pointer (some ⟨mb, 0, none⟩), .int .i64 772] (.tuple #[.int .i64 (X.c.mie : Nat), .bool true]) w := zq286
theorem x_readMach_773 (mb rb X) (hX : XOk X) (w) (hw : Hid (XAt w mb rb X)) :
 CK 305 #[.pointer (some ⟨mb, 0, none⟩), .int .i64 773] (.tuple #[.int .i64 (X.c.mtvec : Nat), .bool true]) w := zq286
theorem x_readMach_774 (mb rb X) (hX : XOk X) (w) (hw : Hid (XAt w mb rb X)) :
 CK 305 #[.pointer (some ⟨mb, 0, none⟩), .int .i64 774] (.tuple #[.int .i64 (X.c.mcen : Nat), .bool true]) w := zq286
theorem x_readMach_800 (mb rb X) (hX : XOk X) (w) (hw : Hid (XAt w mb rb X)) :
 CK 305 #[.pointer (some ⟨mb, 0, none⟩), .int .i64 800] (.tuple #[.int .i64 (X.c.minh : Nat), .bool true]) w := zq286
theorem x_readMach_832 (mb rb X) (hX : XOk X) (w) (hw : Hid (XAt w mb rb X)) :
 CK 305 #[.pointer (some ⟨mb, 0, none⟩), .int .i64 832] (.tuple #[.int .i64 (X.c.mscratch : Nat), .bool true]) w := zq286
theorem x_readMach_833 (mb rb X) (hX : XOk X) (w) (hw : Hid (XAt w mb rb X)) :
 CK 305 #[.pointer (some ⟨mb, 0, none⟩), .int .i64 833] (.tuple #[.int .i64 (X.c.mepc : Nat), .bool true]) w := zq286
theorem x_readMach_834 (mb rb X) (hX : XOk X) (w) (hw : Hid (XAt w mb rb X)) :
 CK 305 #[.pointer (some ⟨mb, 0, none⟩), .int .i64 834] (.tuple #[.int .i64 (X.c.mcause : Nat), .bool true]) w := zq286
theorem x_readMach_835 (mb rb X) (hX : XOk X) (w) (hw : Hid (XAt w mb rb X)) :
 CK 305 #[.pointer (some ⟨mb, 0, none⟩), .int .i64 835] (.tuple #[.int .i64 (X.c.mtval : Nat), .bool true]) w := zq286
theorem x_readMach_769 (mb rb X) (hX : XOk X) (w) (hw : Hid (XAt w mb rb X)) :
 CK 305 #[.pointer (some ⟨mb, 0, none⟩), .int .i64 769] (.tuple #[.int .i64 (1075056901 : Nat), .bool true]) w := zq286
theorem x_readMach_836 (mb rb X) (hX : XOk X) (w) (hw : Hid (XAt w mb rb X)) :
 CK 305 #[.pointer (some ⟨mb, 0, none⟩), .int .i64 836] (.tuple #[.int .i64 (penD X : Nat), .bool true]) w := by
 have hlt := hw.out.lt
 have hlt' : ¬ mb = w.heap.size := by omega
 have HR := hide1 (csL_at hw.out)
 obtain ⟨cs, hcs⟩ := zn1 (csL X)
 rw [<- hcs] at HR
 have HCS := hide1 hcs
 have hsz : cs.toArray.size = 23 := zq87
 clear hcs
 have PE := hide1 (fun W h => x_pending mb rb X hX W h)
 obtain ⟨p, hpe⟩ := zn1 (penD X)
 simp only [<- hpe] at PE |-
 clear hX hpe
 go_enter func305, ntmps305
 go_upto_region 1 with fail
 refine wp_region_lit ?_
 refine wpList_plain rfl (fun K hK => ?_)
 go_simp
 refine hK _ _ ?_
 clear hK K
 refine wpList_plain rfl (fun K hK => ?_)
 go_simp
 refine hK _ _ ?_
 clear hK K
 refine wpList_plain rfl (fun K hK => ?_)
 go_simp
 refine hK _ _ ?_
 clear hK K
 refine wpList_load_mid rfl _ _ rfl mb 38 (by rfl) cs _ HR.out Tryz.underlying71 rfl zq518 ?_
 refine wpList_plain rfl (fun K hK => ?_)
 go_simp
 refine hK _ _ ?_
 clear hK K
 refine wpList_store_mid rfl _ _ _ rfl w.heap.size 0 cs.toArray rfl rfl zq519 zq520 zq521 ?_
 obtain ⟨w2, hw2, hr2, hk2⟩ := copy_box w (#[.int .i64 0, .int .i64 0, .int .i64 0, .int .i64 0, .int .i64 0, .int .i64 0, .int .i64 0, .int .i64 0, .int .i64 0, .int .i64 0, .int .i64 0, .int .i64 0, .int .i64 0, .int .i64 0, .int .i64 0, .int .i64 0, .int .i64 0, .int .i64 0, .int .i64 0, .int .i64 0, .int .i64 0, .int .i64 0, .int .i64 0]) 71 cs.toArray hsz
 rw [<- hw2]
 have hz2 : w.heap.size < w2.heap.size := zq88
 clear hw2
 have d0 : w2.cell? ⟨w.heap.size, 0, none⟩ = some (.int .i64 X.c.mstatus) := zq89
 have d1 : w2.cell? ⟨w.heap.size, 1, none⟩ = some (.int .i64 X.c.medeleg) := zq90
 have d2 : w2.cell? ⟨w.heap.size, 2, none⟩ = some (.int .i64 X.c.mideleg) := zq91
 have d3 : w2.cell? ⟨w.heap.size, 3, none⟩ = some (.int .i64 X.c.mie) := zq92
 have d4 : w2.cell? ⟨w.heap.size, 4, none⟩ = some (.int .i64 X.c.mip) := zq93
 have d5 : w2.cell? ⟨w.heap.size, 5, none⟩ = some (.int .i64 X.c.mtvec) := zq94
 have d6 : w2.cell? ⟨w.heap.size, 6, none⟩ = some (.int .i64 X.c.mcen) := zq95
 have d7 : w2.cell? ⟨w.heap.size, 7, none⟩ = some (.int .i64 X.c.minh) := zq96
 have d8 : w2.cell? ⟨w.heap.size, 8, none⟩ = some (.int .i64 X.c.mscratch) := zq97
 have d9 : w2.cell? ⟨w.heap.size, 9, none⟩ = some (.int .i64 X.c.mepc) := zq98
 have d10 : w2.cell? ⟨w.heap.size, 10, none⟩ = some (.int .i64 X.c.mcause) := zq99
 have d11 : w2.cell? ⟨w.heap.size, 11, none⟩ = some (.int .i64 X.c.mtval) := zq100
 have d12 : w2.cell? ⟨w.heap.size, 12, none⟩ = some (.int .i64 X.c.stvec) := zq101
 have d13 : w2.cell? ⟨w.heap.size, 13, none⟩ = some (.int .i64 X.c.scen) := zq102
 have d14 : w2.cell? ⟨w.heap.size, 14, none⟩ = some (.int .i64 X.c.sscratch) := zq103
 have d15 : w2.cell? ⟨w.heap.size, 15, none⟩ = some (.int .i64 X.c.sepc) := zq104
 have d16 : w2.cell? ⟨w.heap.size, 16, none⟩ = some (.int .i64 X.c.scause) := zq105
 have d17 : w2.cell? ⟨w.heap.size, 17, none⟩ = some (.int .i64 X.c.stval) := zq106
 have d18 : w2.cell? ⟨w.heap.size, 18, none⟩ = some (.int .i64 X.c.satp) := zq107
 have d19 : w2.cell? ⟨w.heap.size, 19, none⟩ = some (.int .i64 X.c.cyc) := zq108
 have d20 : w2.cell? ⟨w.heap.size, 20, none⟩ = some (.int .i64 X.c.cych) := zq109
 have d21 : w2.cell? ⟨w.heap.size, 21, none⟩ = some (.int .i64 X.c.ret) := zq110
 have d22 : w2.cell? ⟨w.heap.size, 22, none⟩ = some (.int .i64 X.c.reth) := zq111
 clear hr2
 refine wpList_nil ?_
 have hx2 := hw.out.kept hk2
 go_wp2_with (go_at_call 126; refine (PE.out _ (hide1 hx2)).mono ?_; rintro o w1 ⟨rfl, hk1⟩)
 go_ret2
 exact ⟨rfl, hk2.trans hk1⟩
theorem x_readMach_no (mb rb : Nat) (X : XS) (n : Int) (q768 : (n == 768) = false) (q769 : (n == 769) = false) (q770 : (n == 770) = false) (q771 : (n == 771) = false) (q772 : (n == 772) = false) (q773 : (n == 773) = false) (q774 : (n == 774) = false) (q800 : (n == 800) = false) (q832 : (n == 832) = false) (q833 : (n == 833) = false) (q834 : (n == 834) = false) (q835 : (n == 835) = false) (q836 : (n == 836) = false) (w) (hw : Hid (XAt w mb rb X)) :
 CK 305 #[.pointer (some ⟨mb, 0, none⟩), .int .i64 n] (.tuple #[.int .i64 0, .bool (decide (803 <= n /\ n <= 831))]) w := by
 have hlt := hw.out.lt
 have hlt' : ¬ mb = w.heap.size := by omega
 have HR := hide1 (csL_at hw.out)
 obtain ⟨cs, hcs⟩ := zn1 (csL X)
 rw [<- hcs] at HR
 have HCS := hide1 hcs
 have hsz : cs.toArray.size = 23 := zq87
 clear hcs
 clear hw
 obtain ⟨T, hT⟩ := zn1 (decide (803 <= n /\ n <= 831))
 rw [<- hT]
 by_cases h1 : 803 <= n
 . have q1 : decide (803 <= n) = true := by simp [h1]
   by_cases h2 : n <= 831
   . have q2 : decide (n <= 831) = true := by simp [h2]
     have HT : Hid (T = true) := by rw [hT]; show _ = _; simp [h1, h2]
     exact zq287
   . have q2 : decide (n <= 831) = false := by simp; omega
     have HT : Hid (T = false) := by rw [hT]; show _ = _; simp [h2]
     exact zq287
 . have q1 : decide (803 <= n) = false := by simp; omega
   have HT : Hid (T = false) := by rw [hT]; show _ = _; simp [h1]
   exact zq287
def macD (X : XS) (n : Int) : Nat × Bool :=
 if n = 768 then (X.c.mstatus, true) else if n = 769 then (1075056901, true) else if n = 770 then (X.c.medeleg, true) else if n = 771 then (X.c.mideleg, true) else if n = 772 then (X.c.mie, true) else if n = 773 then (X.c.mtvec, true) else if n = 774 then (X.c.mcen, true) else if n = 800 then (X.c.minh, true) else if n = 832 then (X.c.mscratch, true) else if n = 833 then (X.c.mepc, true) else if n = 834 then (X.c.mcause, true) else if n = 835 then (X.c.mtval, true) else if n = 836 then (penD X, true) else (0, decide (803 <= n /\ n <= 831))
theorem x_readMach (mb rb X) (hX : XOk X) (n : Int) (w) (hw : Hid (XAt w mb rb X)) :
 CK 305 #[.pointer (some ⟨mb, 0, none⟩), .int .i64 n] (.tuple #[.int .i64 ((macD X n).1 : Nat), .bool (macD X n).2]) w := by
 by_cases h768 : n = 768
 . subst h768; exact x_readMach_768 mb rb X hX w hw
 by_cases h769 : n = 769
 . subst h769; exact x_readMach_769 mb rb X hX w hw
 by_cases h770 : n = 770
 . subst h770; exact x_readMach_770 mb rb X hX w hw
 by_cases h771 : n = 771
 . subst h771; exact x_readMach_771 mb rb X hX w hw
 by_cases h772 : n = 772
 . subst h772; exact x_readMach_772 mb rb X hX w hw
 by_cases h773 : n = 773
 . subst h773; exact x_readMach_773 mb rb X hX w hw
 by_cases h774 : n = 774
 . subst h774; exact x_readMach_774 mb rb X hX w hw
 by_cases h800 : n = 800
 . subst h800; exact x_readMach_800 mb rb X hX w hw
 by_cases h832 : n = 832
 . subst h832; exact x_readMach_832 mb rb X hX w hw
 by_cases h833 : n = 833
 . subst h833; exact x_readMach_833 mb rb X hX w hw
 by_cases h834 : n = 834
 . subst h834; exact x_readMach_834 mb rb X hX w hw
 by_cases h835 : n = 835
 . subst h835; exact x_readMach_835 mb rb X hX w hw
 by_cases h836 : n = 836
 . subst h836; exact x_readMach_836 mb rb X hX w hw
 rw [show macD X n = (0, decide (803 <= n /\ n <= 831)) by unfold macD; simp [h768, h769, h770, h771, h772, h773, h774, h800, h832, h833, h834, h835, h836]]
 exact x_readMach_no mb rb X n (by simp [h768]) (by simp [h769]) (by simp [h770]) (by simp [h771]) (by simp [h772]) (by simp [h773]) (by simp [h774]) (by simp [h800]) (by simp [h832]) (by simp [h833]) (by simp [h834]) (by simp [h835]) (by simp [h836]) w hw
def cnV (X : XS) (n : Nat) : Nat × Nat := if n % 32 = 0 then (X.c.cyc, X.c.cych) else if n % 32 = 1 then (X.b.time, X.b.timeh) else if n % 32 = 2 then (X.c.ret, X.c.reth) else (0, 0)
def cntD (X : XS) (n : Nat) : Nat × Bool :=
 if 32 <= n % 256 - (if 128 <= n % 256 then 128 else 0) then (0, false) else if n % 32 = 1 /\ n < 3072 then (0, false) else if 128 <= n % 256 then ((cnV X n).2, true) else ((cnV X n).1, true)
theorem x_readCounter (mb rb : Nat) (X : XS) (n : Nat) (h0 : 2816 <= n) (h1 : n <= 3327) (w) (hw : Hid (XAt w mb rb X)) :
 CK 306 #[.pointer (some ⟨mb, 0, none⟩), .int .i64 n] (.tuple #[.int .i64 ((cntD X n).1 : Nat), .bool (cntD X n).2]) w := by
 have hlt := hw.out.lt
 have hlt' : ¬ mb = w.heap.size := by omega
 have c57 := hw.out.c57
 have c58 := hw.out.c58
 have c59 := hw.out.c59
 have c60 := hw.out.c60
 have c62 := hw.out.c62
 have c63 := hw.out.c63
 obtain ⟨r, hr⟩ := zn1 (n % 256)
 obtain ⟨k, hk⟩ := zn1 (n % 32)
 have er : (n : Int) % 256 = (r : Int) := by omega
 have ek : (n : Int) % 32 = (k : Int) := by omega
 have hrl : r < 256 := by omega
 have hkl : k < 32 := by omega
 unfold cntD cnV
 rw [<- hr, <- hk]
 clear hr hk hw
 by_cases hh : 128 <= r
 . have qh : decide ((128 : Int) <= r) = true := by simp; omega
   have qh' : decide (128 <= r) = true := by simp; omega
   rw [if_pos hh]
   by_cases ht : 32 <= r - 128
   . rw [if_pos ht]
     have qt : decide ((32 : Int) <= (r : Int) - 128) = true := by simp; omega
     exact zq288
   . rw [if_neg ht]
     have qt : decide ((32 : Int) <= (r : Int) - 128) = false := by simp; omega
     clear ht
     by_cases k0 : k = 0
     . subst k0
       rw [if_neg (by omega), if_pos hh, if_pos rfl]
       exact zq290
     by_cases k1 : k = 1
     . subst k1
       by_cases h3 : n < 3072
       . exact zq291
       . rw [if_neg (fun h => h3 h.2), if_pos hh, if_neg (by omega), if_pos rfl]
         exact zq292
     by_cases k2 : k = 2
     . subst k2
       rw [if_neg (by omega), if_pos hh, if_neg (by omega), if_neg (by omega), if_pos rfl]
       exact zq290
     rw [if_neg (by omega), if_pos hh, if_neg k0, if_neg k1, if_neg k2]
     exact zq289
 . have qh : decide ((128 : Int) <= r) = false := by simp; omega
   have qh' : decide (128 <= r) = false := by simp; omega
   rw [if_neg hh]
   by_cases ht : 32 <= r - 0
   . rw [if_pos ht]
     have qt : decide ((32 : Int) <= (r : Int)) = true := by simp; omega
     have qt' : decide (32 <= r) = true := by simp; omega
     exact zq288
   . rw [if_neg ht]
     have qt : decide ((32 : Int) <= (r : Int)) = false := by simp; omega
     have qt' : decide (32 <= r) = false := by simp; omega
     clear ht
     by_cases k0 : k = 0
     . subst k0
       rw [if_neg (by omega), if_neg hh, if_pos rfl]
       exact zq290
     by_cases k1 : k = 1
     . subst k1
       by_cases h3 : n < 3072
       . exact zq291
       . rw [if_neg (fun h => h3 h.2), if_neg hh, if_neg (by omega), if_pos rfl]
         exact zq292
     by_cases k2 : k = 2
     . subst k2
       rw [if_neg (by omega), if_neg hh, if_neg (by omega), if_neg (by omega), if_pos rfl]
       exact zq290
     rw [if_neg (by omega), if_neg hh, if_neg k0, if_neg k1, if_neg k2]
     exact zq289
def rcsD (X : XS) (n : Int) : Nat × Bool :=
 if 256 <= n /\ n <= 511 then supD X n else if 768 <= n /\ n <= 1023 then macD X n else if 2816 <= n /\ n <= 3327 then cntD X n.toNat else (0, decide (3857 <= n /\ n <= 3860))
theorem x_readCsr (mb rb X) (hX : XOk X) (n : Int) (w) (hw : Hid (XAt w mb rb X)) :
 CK 217 #[.pointer (some ⟨mb, 0, none⟩), .int .i64 n] (.tuple #[.int .i64 ((rcsD X n).1 : Nat), .bool (rcsD X n).2]) w := by
 have RS := hide1 (x_readSuper mb rb X hX n w hw)
 have RM := hide1 (x_readMach mb rb X hX n w hw)
 have RC : Hid (2816 <= n /\ n <= 3327 -> CK 306 #[.pointer (some ⟨mb, 0, none⟩), .int .i64 n] (.tuple #[.int .i64 ((cntD X n.toNat).1 : Nat), .bool (cntD X n.toNat).2]) w) := hide1 (fun h => by
  have := x_readCounter mb rb X n.toNat (by omega) (by omega) w hw
  rw [show ((n.toNat : Nat) : Int) = n by omega] at this
  exact this)
 unfold rcsD
 obtain ⟨⟨sv, sb⟩, hS⟩ : ∃ s, s = supD X n := ⟨_, rfl⟩
 obtain ⟨⟨mv, mbb⟩, hM⟩ : ∃ s, s = macD X n := ⟨_, rfl⟩
 obtain ⟨⟨cv, cb⟩, hC⟩ : ∃ s, s = cntD X n.toNat := ⟨_, rfl⟩
 rw [<- hS] at RS |-
 rw [<- hM] at RM |-
 simp only [<- hC] at RC |-
 clear hS hM hC hX hw
 by_cases h1 : 256 <= n /\ n <= 511
 . rw [if_pos h1]
   obtain ⟨a1, a2⟩ := h1
   have q1 : decide (256 <= n) = true := by simp [a1]
   have q2 : decide (n <= 511) = true := by simp [a2]
   go_enter func217, ntmps217
   go_wp2_with (go_at_call 304; refine RS.out.mono ?_; rintro o w1 ⟨rfl, hk1⟩)
   exact zq293
 rw [if_neg h1]
 by_cases h2 : 768 <= n /\ n <= 1023
 . rw [if_pos h2]
   obtain ⟨a1, a2⟩ := h2
   have q1 : decide (256 <= n) = true := by simp; omega
   have q2 : decide (n <= 511) = false := by simp; omega
   have q3 : decide (768 <= n) = true := by simp [a1]
   have q4 : decide (n <= 1023) = true := by simp [a2]
   clear h1
   go_enter func217, ntmps217
   go_wp2_with (go_at_call 305; refine RM.out.mono ?_; rintro o w1 ⟨rfl, hk1⟩)
   exact zq293
 rw [if_neg h2]
 by_cases h3 : 2816 <= n /\ n <= 3327
 . rw [if_pos h3]
   have RC2 := hide1 (RC.out h3)
   obtain ⟨a1, a2⟩ := h3
   have q1 : decide (256 <= n) = true := by simp; omega
   have q2 : decide (n <= 511) = false := by simp; omega
   have q3 : decide (768 <= n) = true := by simp; omega
   have q4 : decide (n <= 1023) = false := by simp; omega
   have q5 : decide (2816 <= n) = true := by simp [a1]
   have q6 : decide (n <= 3327) = true := by simp [a2]
   clear h1 h2 RC
   go_enter func217, ntmps217
   go_wp2_with (go_at_call 306; refine RC2.out.mono ?_; rintro o w1 ⟨rfl, hk1⟩)
   exact zq293
 rw [if_neg h3]
 obtain ⟨T, hT⟩ := zn1 (decide (3857 <= n /\ n <= 3860))
 dsimp only
 rw [<- hT]
 have HT := hide1 hT
 clear RS RM RC hT
 go_enter func217, ntmps217
 go_wp2_with fail
 all_goals first
  | (exfalso; omega)
  | (go_ret2; refine ⟨?_, Kept.refl _ _⟩; rw [HT.out]; simp_all <;> try first | omega | (rw [Bool.eq_iff_iff]; simp; omega))
theorem x_writeSuper_256 (mb rb X) (hX : XOk X) (v : Nat) (hv : v < 4294967296) (w) (hw : Hid (XAt w mb rb X)) :
 CX 350 #[.pointer (some ⟨mb, 38, none⟩), .int .i64 256, .int .i64 v] (.tuple #[]) [mb] mb rb ({ X with c := { X.c with mstatus := xmixD X.c.mstatus v 786722 } }) w := by
 have cc := hw.out.c38
 have hfr := hw.out.fro
 have hm := hX.mstatus
 have MX : Hid (∀ W, CS 259 #[.int .i64 X.c.mstatus, .int .i64 v, .int .i64 786722] (.int .i64 (xmixD X.c.mstatus v 786722)) W) := hide1 (fun W => x_mixed X.c.mstatus v 786722 (by omega) hv (by omega) W)
 obtain ⟨r, hr⟩ := zn1 (xmixD X.c.mstatus v 786722)
 simp only [<- hr] at MX |-
 clear hr
 clear hX
 go_enter func350, ntmps350
 go_wp2_with (go_at_call 259; refine (MX.out _).mono ?_; rintro o w1 ⟨rfl, rfl⟩)
 exact zq294
theorem x_writeSuper_260 (mb rb X) (hX : XOk X) (v : Nat) (hv : v < 4294967296) (w) (hw : Hid (XAt w mb rb X)) :
 CX 350 #[.pointer (some ⟨mb, 38, none⟩), .int .i64 260, .int .i64 v] (.tuple #[]) [mb] mb rb ({ X with c := { X.c with mie := xmixD X.c.mie v X.c.mideleg } }) w := by
 have cc := hw.out.c41
 have hfr := hw.out.fro
 have c40 := hw.out.c40
 have hd := hX.mideleg
 have hm := hX.mie
 have MX : Hid (∀ W, CS 259 #[.int .i64 X.c.mie, .int .i64 v, .int .i64 X.c.mideleg] (.int .i64 (xmixD X.c.mie v X.c.mideleg)) W) := hide1 (fun W => x_mixed X.c.mie v X.c.mideleg (by omega) hv (by omega) W)
 obtain ⟨r, hr⟩ := zn1 (xmixD X.c.mie v X.c.mideleg)
 simp only [<- hr] at MX |-
 clear hr
 clear hX
 go_enter func350, ntmps350
 go_upto_region 4 with fail
 go_region_with (go_at_call 259; refine (MX.out _).mono ?_; rintro o w1 ⟨rfl, rfl⟩)
 all_goals
  go_wp2_with fail
  go_end0
  exact ⟨rfl, hw.out.drew.set 41 _ rfl rfl (by omega), (Kept.refl _ _).drew.setCell (.inl (by simp)) _⟩
theorem x_writeSuper_261 (mb rb X) (hX : XOk X) (v : Nat) (hv : v < 4294967296) (w) (hw : Hid (XAt w mb rb X)) :
 CX 350 #[.pointer (some ⟨mb, 38, none⟩), .int .i64 261, .int .i64 v] (.tuple #[]) [mb] mb rb ({ X with c := { X.c with stvec := wout v 2 } }) w := by
 have cc := hw.out.c50
 have hfr := hw.out.fro
 have q : bits .andNot .i64 (v : Int) 2 = ((wout v 2 : Nat) : Int) := b_andn v 2 (by omega) (by omega)
 clear hX
 go_enter func350, ntmps350
 go_wp2_with fail
 go_end0
 exact ⟨rfl, hw.out.set 50 _ rfl rfl (by omega), (Kept.refl _ _).setCell (.inl (by simp)) _⟩
theorem x_writeSuper_262 (mb rb X) (hX : XOk X) (v : Nat) (hv : v < 4294967296) (w) (hw : Hid (XAt w mb rb X)) :
 CX 350 #[.pointer (some ⟨mb, 38, none⟩), .int .i64 262, .int .i64 v] (.tuple #[]) [mb] mb rb ({ X with c := { X.c with scen := v &&& 7 } }) w := by
 have cc := hw.out.c51
 have hfr := hw.out.fro
 have q : bits .and .i64 (v : Int) 7 = ((v &&& 7 : Nat) : Int) := b_and v 7 (by omega) (by omega)
 clear hX
 go_enter func350, ntmps350
 go_wp2_with fail
 go_end0
 exact ⟨rfl, hw.out.set 51 _ rfl rfl (by omega), (Kept.refl _ _).setCell (.inl (by simp)) _⟩
theorem x_writeSuper_320 (mb rb X) (hX : XOk X) (v : Nat) (hv : v < 4294967296) (w) (hw : Hid (XAt w mb rb X)) :
 CX 350 #[.pointer (some ⟨mb, 38, none⟩), .int .i64 320, .int .i64 v] (.tuple #[]) [mb] mb rb ({ X with c := { X.c with sscratch := v } }) w := by
 have cc := hw.out.c52
 have hfr := hw.out.fro
 clear hX
 go_enter func350, ntmps350
 go_wp2_with fail
 go_end0
 exact ⟨rfl, hw.out.set 52 _ rfl rfl (by omega), (Kept.refl _ _).setCell (.inl (by simp)) _⟩
theorem x_writeSuper_321 (mb rb X) (hX : XOk X) (v : Nat) (hv : v < 4294967296) (w) (hw : Hid (XAt w mb rb X)) :
 CX 350 #[.pointer (some ⟨mb, 38, none⟩), .int .i64 321, .int .i64 v] (.tuple #[]) [mb] mb rb ({ X with c := { X.c with sepc := wout v 1 } }) w := by
 have cc := hw.out.c53
 have hfr := hw.out.fro
 have q : bits .andNot .i64 (v : Int) 1 = ((wout v 1 : Nat) : Int) := b_andn v 1 (by omega) (by omega)
 clear hX
 go_enter func350, ntmps350
 go_wp2_with fail
 go_end0
 exact ⟨rfl, hw.out.set 53 _ rfl rfl (by omega), (Kept.refl _ _).setCell (.inl (by simp)) _⟩
theorem x_writeSuper_322 (mb rb X) (hX : XOk X) (v : Nat) (hv : v < 4294967296) (w) (hw : Hid (XAt w mb rb X)) :
 CX 350 #[.pointer (some ⟨mb, 38, none⟩), .int .i64 322, .int .i64 v] (.tuple #[]) [mb] mb rb ({ X with c := { X.c with scause := v } }) w := by
 have cc := hw.out.c54
 have hfr := hw.out.fro
 clear hX
 go_enter func350, ntmps350
 go_wp2_with fail
 go_end0
 exact ⟨rfl, hw.out.set 54 _ rfl rfl (by omega), (Kept.refl _ _).setCell (.inl (by simp)) _⟩
theorem x_writeSuper_323 (mb rb X) (hX : XOk X) (v : Nat) (hv : v < 4294967296) (w) (hw : Hid (XAt w mb rb X)) :
 CX 350 #[.pointer (some ⟨mb, 38, none⟩), .int .i64 323, .int .i64 v] (.tuple #[]) [mb] mb rb ({ X with c := { X.c with stval := v } }) w := by
 have cc := hw.out.c55
 have hfr := hw.out.fro
 clear hX
 go_enter func350, ntmps350
 go_wp2_with fail
 go_end0
 exact ⟨rfl, hw.out.set 55 _ rfl rfl (by omega), (Kept.refl _ _).setCell (.inl (by simp)) _⟩
theorem x_writeSuper_324 (mb rb X) (hX : XOk X) (v : Nat) (hv : v < 4294967296) (w) (hw : Hid (XAt w mb rb X)) :
 CX 350 #[.pointer (some ⟨mb, 38, none⟩), .int .i64 324, .int .i64 v] (.tuple #[]) [mb] mb rb ({ X with c := { X.c with mip := xmixD X.c.mip v (X.c.mideleg &&& 2) } }) w := by
 have cc := hw.out.c42
 have hfr := hw.out.fro
 have c40 := hw.out.c40
 have hd := hX.mideleg
 have hml : (X.c.mideleg &&& 2) < 4294967296 := Nat.lt_of_le_of_lt Nat.and_le_left hd
 have q : bits .and .i64 (X.c.mideleg : Int) 2 = ((X.c.mideleg &&& 2 : Nat) : Int) := b_and X.c.mideleg 2 (by omega) (by omega)
 have hm := hX.mip
 have MX : Hid (∀ W, CS 259 #[.int .i64 X.c.mip, .int .i64 v, .int .i64 (X.c.mideleg &&& 2 : Nat)] (.int .i64 (xmixD X.c.mip v (X.c.mideleg &&& 2))) W) := hide1 (fun W => x_mixed X.c.mip v (X.c.mideleg &&& 2) (by omega) hv (by omega) W)
 obtain ⟨r, hr⟩ := zn1 (xmixD X.c.mip v (X.c.mideleg &&& 2))
 simp only [<- hr] at MX |-
 clear hr
 clear hX
 go_enter func350, ntmps350
 go_upto_region 18 with fail
 go_region_with (go_at_call 259; refine (MX.out _).mono ?_; rintro o w1 ⟨rfl, rfl⟩)
 all_goals
  go_wp2_with fail
  go_end0
  exact ⟨rfl, hw.out.drew.set 42 _ rfl rfl (by omega), (Kept.refl _ _).drew.setCell (.inl (by simp)) _⟩
theorem x_writeSuper_384 (mb rb X) (hX : XOk X) (v : Nat) (hv : v < 4294967296) (w) (hw : Hid (XAt w mb rb X)) :
 CX 350 #[.pointer (some ⟨mb, 38, none⟩), .int .i64 384, .int .i64 v] (.tuple #[]) [mb] mb rb ({ X with c := { X.c with satp := v } }) w := by
 have cc := hw.out.c56
 have hfr := hw.out.fro
 clear hX
 go_enter func350, ntmps350
 go_wp2_with fail
 go_end0
 exact ⟨rfl, hw.out.set 56 _ rfl rfl (by omega), (Kept.refl _ _).setCell (.inl (by simp)) _⟩
theorem x_writeMach_768 (mb rb X) (hX : XOk X) (v : Nat) (hv : v < 4294967296) (w) (hw : Hid (XAt w mb rb X)) :
 CX 351 #[.pointer (some ⟨mb, 38, none⟩), .int .i64 768, .int .i64 v] (.tuple #[]) [mb] mb rb ({ X with c := { X.c with mstatus := xstwD X.c.mstatus v } }) w := by
 have cc := hw.out.c38
 have hfr := hw.out.fro
 have hm := hX.mstatus
 have SW := hide1 (x_statusWritten X.c.mstatus v hm hv)
 obtain ⟨r, hr⟩ := zn1 (xstwD X.c.mstatus v)
 simp only [<- hr] at SW |-
 clear hr
 clear hX
 go_enter func351, ntmps351
 go_wp2_with (go_at_call 380; refine (SW.out _).mono ?_; rintro o w1 ⟨rfl, rfl⟩)
 exact zq294
theorem x_writeMach_770 (mb rb X) (hX : XOk X) (v : Nat) (hv : v < 4294967296) (w) (hw : Hid (XAt w mb rb X)) :
 CX 351 #[.pointer (some ⟨mb, 38, none⟩), .int .i64 770, .int .i64 v] (.tuple #[]) [mb] mb rb ({ X with c := { X.c with medeleg := v &&& 46079 } }) w := by
 have cc := hw.out.c39
 have hfr := hw.out.fro
 have q : bits .and .i64 (v : Int) 46079 = ((v &&& 46079 : Nat) : Int) := b_and v 46079 (by omega) (by omega)
 clear hX
 go_enter func351, ntmps351
 go_wp2_with fail
 go_end0
 exact ⟨rfl, hw.out.set 39 _ rfl rfl (by omega), (Kept.refl _ _).setCell (.inl (by simp)) _⟩
theorem x_writeMach_771 (mb rb X) (hX : XOk X) (v : Nat) (hv : v < 4294967296) (w) (hw : Hid (XAt w mb rb X)) :
 CX 351 #[.pointer (some ⟨mb, 38, none⟩), .int .i64 771, .int .i64 v] (.tuple #[]) [mb] mb rb ({ X with c := { X.c with mideleg := v &&& 546 } }) w := by
 have cc := hw.out.c40
 have hfr := hw.out.fro
 have q : bits .and .i64 (v : Int) 546 = ((v &&& 546 : Nat) : Int) := b_and v 546 (by omega) (by omega)
 clear hX
 go_enter func351, ntmps351
 go_wp2_with fail
 go_end0
 exact ⟨rfl, hw.out.set 40 _ rfl rfl (by omega), (Kept.refl _ _).setCell (.inl (by simp)) _⟩
theorem x_writeMach_772 (mb rb X) (hX : XOk X) (v : Nat) (hv : v < 4294967296) (w) (hw : Hid (XAt w mb rb X)) :
 CX 351 #[.pointer (some ⟨mb, 38, none⟩), .int .i64 772, .int .i64 v] (.tuple #[]) [mb] mb rb ({ X with c := { X.c with mie := v &&& 2730 } }) w := by
 have cc := hw.out.c41
 have hfr := hw.out.fro
 have q : bits .and .i64 (v : Int) 2730 = ((v &&& 2730 : Nat) : Int) := b_and v 2730 (by omega) (by omega)
 clear hX
 go_enter func351, ntmps351
 go_wp2_with fail
 go_end0
 exact ⟨rfl, hw.out.set 41 _ rfl rfl (by omega), (Kept.refl _ _).setCell (.inl (by simp)) _⟩
theorem x_writeMach_773 (mb rb X) (hX : XOk X) (v : Nat) (hv : v < 4294967296) (w) (hw : Hid (XAt w mb rb X)) :
 CX 351 #[.pointer (some ⟨mb, 38, none⟩), .int .i64 773, .int .i64 v] (.tuple #[]) [mb] mb rb ({ X with c := { X.c with mtvec := wout v 2 } }) w := by
 have cc := hw.out.c43
 have hfr := hw.out.fro
 have q : bits .andNot .i64 (v : Int) 2 = ((wout v 2 : Nat) : Int) := b_andn v 2 (by omega) (by omega)
 clear hX
 go_enter func351, ntmps351
 go_wp2_with fail
 go_end0
 exact ⟨rfl, hw.out.set 43 _ rfl rfl (by omega), (Kept.refl _ _).setCell (.inl (by simp)) _⟩
theorem x_writeMach_774 (mb rb X) (hX : XOk X) (v : Nat) (hv : v < 4294967296) (w) (hw : Hid (XAt w mb rb X)) :
 CX 351 #[.pointer (some ⟨mb, 38, none⟩), .int .i64 774, .int .i64 v] (.tuple #[]) [mb] mb rb ({ X with c := { X.c with mcen := v &&& 7 } }) w := by
 have cc := hw.out.c44
 have hfr := hw.out.fro
 have q : bits .and .i64 (v : Int) 7 = ((v &&& 7 : Nat) : Int) := b_and v 7 (by omega) (by omega)
 clear hX
 go_enter func351, ntmps351
 go_wp2_with fail
 go_end0
 exact ⟨rfl, hw.out.set 44 _ rfl rfl (by omega), (Kept.refl _ _).setCell (.inl (by simp)) _⟩
theorem x_writeMach_800 (mb rb X) (hX : XOk X) (v : Nat) (hv : v < 4294967296) (w) (hw : Hid (XAt w mb rb X)) :
 CX 351 #[.pointer (some ⟨mb, 38, none⟩), .int .i64 800, .int .i64 v] (.tuple #[]) [mb] mb rb ({ X with c := { X.c with minh := v &&& 5 } }) w := by
 have cc := hw.out.c45
 have hfr := hw.out.fro
 have q : bits .and .i64 (v : Int) 5 = ((v &&& 5 : Nat) : Int) := b_and v 5 (by omega) (by omega)
 clear hX
 go_enter func351, ntmps351
 go_wp2_with fail
 go_end0
 exact ⟨rfl, hw.out.set 45 _ rfl rfl (by omega), (Kept.refl _ _).setCell (.inl (by simp)) _⟩
theorem x_writeMach_832 (mb rb X) (hX : XOk X) (v : Nat) (hv : v < 4294967296) (w) (hw : Hid (XAt w mb rb X)) :
 CX 351 #[.pointer (some ⟨mb, 38, none⟩), .int .i64 832, .int .i64 v] (.tuple #[]) [mb] mb rb ({ X with c := { X.c with mscratch := v } }) w := by
 have cc := hw.out.c46
 have hfr := hw.out.fro
 clear hX
 go_enter func351, ntmps351
 go_wp2_with fail
 go_end0
 exact ⟨rfl, hw.out.set 46 _ rfl rfl (by omega), (Kept.refl _ _).setCell (.inl (by simp)) _⟩
theorem x_writeMach_833 (mb rb X) (hX : XOk X) (v : Nat) (hv : v < 4294967296) (w) (hw : Hid (XAt w mb rb X)) :
 CX 351 #[.pointer (some ⟨mb, 38, none⟩), .int .i64 833, .int .i64 v] (.tuple #[]) [mb] mb rb ({ X with c := { X.c with mepc := wout v 1 } }) w := by
 have cc := hw.out.c47
 have hfr := hw.out.fro
 have q : bits .andNot .i64 (v : Int) 1 = ((wout v 1 : Nat) : Int) := b_andn v 1 (by omega) (by omega)
 clear hX
 go_enter func351, ntmps351
 go_wp2_with fail
 go_end0
 exact ⟨rfl, hw.out.set 47 _ rfl rfl (by omega), (Kept.refl _ _).setCell (.inl (by simp)) _⟩
theorem x_writeMach_834 (mb rb X) (hX : XOk X) (v : Nat) (hv : v < 4294967296) (w) (hw : Hid (XAt w mb rb X)) :
 CX 351 #[.pointer (some ⟨mb, 38, none⟩), .int .i64 834, .int .i64 v] (.tuple #[]) [mb] mb rb ({ X with c := { X.c with mcause := v } }) w := by
 have cc := hw.out.c48
 have hfr := hw.out.fro
 clear hX
 go_enter func351, ntmps351
 go_wp2_with fail
 go_end0
 exact ⟨rfl, hw.out.set 48 _ rfl rfl (by omega), (Kept.refl _ _).setCell (.inl (by simp)) _⟩
theorem x_writeMach_835 (mb rb X) (hX : XOk X) (v : Nat) (hv : v < 4294967296) (w) (hw : Hid (XAt w mb rb X)) :
 CX 351 #[.pointer (some ⟨mb, 38, none⟩), .int .i64 835, .int .i64 v] (.tuple #[]) [mb] mb rb ({ X with c := { X.c with mtval := v } }) w := by
 have cc := hw.out.c49
 have hfr := hw.out.fro
 clear hX
 go_enter func351, ntmps351
 go_wp2_with fail
 go_end0
 exact ⟨rfl, hw.out.set 49 _ rfl rfl (by omega), (Kept.refl _ _).setCell (.inl (by simp)) _⟩
theorem x_writeMach_836 (mb rb X) (hX : XOk X) (v : Nat) (hv : v < 4294967296) (w) (hw : Hid (XAt w mb rb X)) :
 CX 351 #[.pointer (some ⟨mb, 38, none⟩), .int .i64 836, .int .i64 v] (.tuple #[]) [mb] mb rb ({ X with c := { X.c with mip := v &&& 546 } }) w := by
 have cc := hw.out.c42
 have hfr := hw.out.fro
 have q : bits .and .i64 (v : Int) 546 = ((v &&& 546 : Nat) : Int) := b_and v 546 (by omega) (by omega)
 clear hX
 go_enter func351, ntmps351
 go_wp2_with fail
 go_end0
 exact ⟨rfl, hw.out.set 42 _ rfl rfl (by omega), (Kept.refl _ _).setCell (.inl (by simp)) _⟩
theorem x_writeCounter_2816 (mb rb X) (hX : XOk X) (v : Nat) (hv : v < 4294967296) (w) (hw : Hid (XAt w mb rb X)) :
 CX 352 #[.pointer (some ⟨mb, 38, none⟩), .int .i64 2816, .int .i64 v] (.tuple #[]) [mb] mb rb ({ X with c := { X.c with cyc := v } }) w := by
 have cc := hw.out.c57
 have hfr := hw.out.fro
 clear hX
 go_enter func352, ntmps352
 go_wp2_with fail
 go_end0
 exact ⟨rfl, hw.out.set 57 _ rfl rfl (by omega), (Kept.refl _ _).setCell (.inl (by simp)) _⟩
theorem x_writeCounter_2944 (mb rb X) (hX : XOk X) (v : Nat) (hv : v < 4294967296) (w) (hw : Hid (XAt w mb rb X)) :
 CX 352 #[.pointer (some ⟨mb, 38, none⟩), .int .i64 2944, .int .i64 v] (.tuple #[]) [mb] mb rb ({ X with c := { X.c with cych := v } }) w := by
 have cc := hw.out.c58
 have hfr := hw.out.fro
 clear hX
 go_enter func352, ntmps352
 go_wp2_with fail
 go_end0
 exact ⟨rfl, hw.out.set 58 _ rfl rfl (by omega), (Kept.refl _ _).setCell (.inl (by simp)) _⟩
theorem x_writeCounter_2818 (mb rb X) (hX : XOk X) (v : Nat) (hv : v < 4294967296) (w) (hw : Hid (XAt w mb rb X)) :
 CX 352 #[.pointer (some ⟨mb, 38, none⟩), .int .i64 2818, .int .i64 v] (.tuple #[]) [mb] mb rb ({ X with c := { X.c with ret := v } }) w := by
 have cc := hw.out.c59
 have hfr := hw.out.fro
 clear hX
 go_enter func352, ntmps352
 go_wp2_with fail
 go_end0
 exact ⟨rfl, hw.out.set 59 _ rfl rfl (by omega), (Kept.refl _ _).setCell (.inl (by simp)) _⟩
theorem x_writeCounter_2946 (mb rb X) (hX : XOk X) (v : Nat) (hv : v < 4294967296) (w) (hw : Hid (XAt w mb rb X)) :
 CX 352 #[.pointer (some ⟨mb, 38, none⟩), .int .i64 2946, .int .i64 v] (.tuple #[]) [mb] mb rb ({ X with c := { X.c with reth := v } }) w := by
 have cc := hw.out.c60
 have hfr := hw.out.fro
 clear hX
 go_enter func352, ntmps352
 go_wp2_with fail
 go_end0
 exact ⟨rfl, hw.out.set 60 _ rfl rfl (by omega), (Kept.refl _ _).setCell (.inl (by simp)) _⟩
theorem x_writeSuper_no (mb : Nat) (n v : Int) (q256 : (n == 256) = false) (q260 : (n == 260) = false) (q261 : (n == 261) = false) (q262 : (n == 262) = false) (q320 : (n == 320) = false) (q321 : (n == 321) = false) (q322 : (n == 322) = false) (q323 : (n == 323) = false) (q324 : (n == 324) = false) (q384 : (n == 384) = false) (w : World) :
 CS 350 #[.pointer (some ⟨mb, 38, none⟩), .int .i64 n, .int .i64 v] (.tuple #[]) w := by
 go_enter func350, ntmps350
 exact zq295
def writeSuperD (X : XS) (n : Int) (v : Nat) : XS :=
 if n = 256 then { X with c := { X.c with mstatus := xmixD X.c.mstatus v 786722 } } else if n = 260 then { X with c := { X.c with mie := xmixD X.c.mie v X.c.mideleg } } else if n = 261 then { X with c := { X.c with stvec := wout v 2 } } else if n = 262 then { X with c := { X.c with scen := v &&& 7 } } else if n = 320 then { X with c := { X.c with sscratch := v } } else if n = 321 then { X with c := { X.c with sepc := wout v 1 } } else if n = 322 then { X with c := { X.c with scause := v } } else if n = 323 then { X with c := { X.c with stval := v } } else if n = 324 then { X with c := { X.c with mip := xmixD X.c.mip v (X.c.mideleg &&& 2) } } else if n = 384 then { X with c := { X.c with satp := v } } else X
theorem x_writeSuper (mb rb X) (hX : XOk X) (n : Int) (v : Nat) (hv : v < 4294967296) (w) (hw : Hid (XAt w mb rb X)) :
 CX 350 #[.pointer (some ⟨mb, 38, none⟩), .int .i64 n, .int .i64 v] (.tuple #[]) [mb] mb rb (writeSuperD X n v) w := by
 by_cases h256 : n = 256
 . subst h256; exact x_writeSuper_256 mb rb X hX v hv w hw
 by_cases h260 : n = 260
 . subst h260; exact x_writeSuper_260 mb rb X hX v hv w hw
 by_cases h261 : n = 261
 . subst h261; exact x_writeSuper_261 mb rb X hX v hv w hw
 by_cases h262 : n = 262
 . subst h262; exact x_writeSuper_262 mb rb X hX v hv w hw
 by_cases h320 : n = 320
 . subst h320; exact x_writeSuper_320 mb rb X hX v hv w hw
 by_cases h321 : n = 321
 . subst h321; exact x_writeSuper_321 mb rb X hX v hv w hw
 by_cases h322 : n = 322
 . subst h322; exact x_writeSuper_322 mb rb X hX v hv w hw
 by_cases h323 : n = 323
 . subst h323; exact x_writeSuper_323 mb rb X hX v hv w hw
 by_cases h324 : n = 324
 . subst h324; exact x_writeSuper_324 mb rb X hX v hv w hw
 by_cases h384 : n = 384
 . subst h384; exact x_writeSuper_384 mb rb X hX v hv w hw
 rw [show writeSuperD X n v = X by unfold writeSuperD; simp [h256, h260, h261, h262, h320, h321, h322, h323, h324, h384]]
 refine (x_writeSuper_no mb n v (by simp [h256]) (by simp [h260]) (by simp [h261]) (by simp [h262]) (by simp [h320]) (by simp [h321]) (by simp [h322]) (by simp [h323]) (by simp [h324]) (by simp [h384]) w).mono ?_
 exact zq296
theorem x_writeMach_no (mb : Nat) (n v : Int) (q768 : (n == 768) = false) (q770 : (n == 770) = false) (q771 : (n == 771) = false) (q772 : (n == 772) = false) (q773 : (n == 773) = false) (q774 : (n == 774) = false) (q800 : (n == 800) = false) (q832 : (n == 832) = false) (q833 : (n == 833) = false) (q834 : (n == 834) = false) (q835 : (n == 835) = false) (q836 : (n == 836) = false) (w : World) :
 CS 351 #[.pointer (some ⟨mb, 38, none⟩), .int .i64 n, .int .i64 v] (.tuple #[]) w := by
 go_enter func351, ntmps351
 exact zq295
def writeMachD (X : XS) (n : Int) (v : Nat) : XS :=
 if n = 768 then { X with c := { X.c with mstatus := xstwD X.c.mstatus v } } else if n = 770 then { X with c := { X.c with medeleg := v &&& 46079 } } else if n = 771 then { X with c := { X.c with mideleg := v &&& 546 } } else if n = 772 then { X with c := { X.c with mie := v &&& 2730 } } else if n = 773 then { X with c := { X.c with mtvec := wout v 2 } } else if n = 774 then { X with c := { X.c with mcen := v &&& 7 } } else if n = 800 then { X with c := { X.c with minh := v &&& 5 } } else if n = 832 then { X with c := { X.c with mscratch := v } } else if n = 833 then { X with c := { X.c with mepc := wout v 1 } } else if n = 834 then { X with c := { X.c with mcause := v } } else if n = 835 then { X with c := { X.c with mtval := v } } else if n = 836 then { X with c := { X.c with mip := v &&& 546 } } else X
theorem x_writeMach (mb rb X) (hX : XOk X) (n : Int) (v : Nat) (hv : v < 4294967296) (w) (hw : Hid (XAt w mb rb X)) :
 CX 351 #[.pointer (some ⟨mb, 38, none⟩), .int .i64 n, .int .i64 v] (.tuple #[]) [mb] mb rb (writeMachD X n v) w := by
 by_cases h768 : n = 768
 . subst h768; exact x_writeMach_768 mb rb X hX v hv w hw
 by_cases h770 : n = 770
 . subst h770; exact x_writeMach_770 mb rb X hX v hv w hw
 by_cases h771 : n = 771
 . subst h771; exact x_writeMach_771 mb rb X hX v hv w hw
 by_cases h772 : n = 772
 . subst h772; exact x_writeMach_772 mb rb X hX v hv w hw
 by_cases h773 : n = 773
 . subst h773; exact x_writeMach_773 mb rb X hX v hv w hw
 by_cases h774 : n = 774
 . subst h774; exact x_writeMach_774 mb rb X hX v hv w hw
 by_cases h800 : n = 800
 . subst h800; exact x_writeMach_800 mb rb X hX v hv w hw
 by_cases h832 : n = 832
 . subst h832; exact x_writeMach_832 mb rb X hX v hv w hw
 by_cases h833 : n = 833
 . subst h833; exact x_writeMach_833 mb rb X hX v hv w hw
 by_cases h834 : n = 834
 . subst h834; exact x_writeMach_834 mb rb X hX v hv w hw
 by_cases h835 : n = 835
 . subst h835; exact x_writeMach_835 mb rb X hX v hv w hw
 by_cases h836 : n = 836
 . subst h836; exact x_writeMach_836 mb rb X hX v hv w hw
 rw [show writeMachD X n v = X by unfold writeMachD; simp [h768, h770, h771, h772, h773, h774, h800, h832, h833, h834, h835, h836]]
 refine (x_writeMach_no mb n v (by simp [h768]) (by simp [h770]) (by simp [h771]) (by simp [h772]) (by simp [h773]) (by simp [h774]) (by simp [h800]) (by simp [h832]) (by simp [h833]) (by simp [h834]) (by simp [h835]) (by simp [h836]) w).mono ?_
 exact zq296
theorem x_writeCounter_no (mb : Nat) (n v : Int) (q2816 : (n == 2816) = false) (q2944 : (n == 2944) = false) (q2818 : (n == 2818) = false) (q2946 : (n == 2946) = false) (w : World) :
 CS 352 #[.pointer (some ⟨mb, 38, none⟩), .int .i64 n, .int .i64 v] (.tuple #[]) w := by
 go_enter func352, ntmps352
 exact zq295
def writeCounterD (X : XS) (n : Int) (v : Nat) : XS :=
 if n = 2816 then { X with c := { X.c with cyc := v } } else if n = 2944 then { X with c := { X.c with cych := v } } else if n = 2818 then { X with c := { X.c with ret := v } } else if n = 2946 then { X with c := { X.c with reth := v } } else X
theorem x_writeCounter (mb rb X) (hX : XOk X) (n : Int) (v : Nat) (hv : v < 4294967296) (w) (hw : Hid (XAt w mb rb X)) :
 CX 352 #[.pointer (some ⟨mb, 38, none⟩), .int .i64 n, .int .i64 v] (.tuple #[]) [mb] mb rb (writeCounterD X n v) w := by
 by_cases h2816 : n = 2816
 . subst h2816; exact x_writeCounter_2816 mb rb X hX v hv w hw
 by_cases h2944 : n = 2944
 . subst h2944; exact x_writeCounter_2944 mb rb X hX v hv w hw
 by_cases h2818 : n = 2818
 . subst h2818; exact x_writeCounter_2818 mb rb X hX v hv w hw
 by_cases h2946 : n = 2946
 . subst h2946; exact x_writeCounter_2946 mb rb X hX v hv w hw
 rw [show writeCounterD X n v = X by unfold writeCounterD; simp [h2816, h2944, h2818, h2946]]
 refine (x_writeCounter_no mb n v (by simp [h2816]) (by simp [h2944]) (by simp [h2818]) (by simp [h2946]) w).mono ?_
 exact zq296
def wcsX (X : XS) (n : Int) (v : Nat) : XS := if 256 <= n /\ n <= 511 then writeSuperD X n v else if 768 <= n /\ n <= 1023 then writeMachD X n v else writeCounterD X n v
theorem x_csrsWrite (mb rb X) (hX : XOk X) (n : Int) (v : Nat) (hv : v < 4294967296) (w) (hw : Hid (XAt w mb rb X)) :
 CX 279 #[.pointer (some ⟨mb, 38, none⟩), .int .i64 n, .int .i64 v] (.tuple #[]) [mb] mb rb (wcsX X n v) w := by
 have S := hide1 (x_writeSuper mb rb X hX n v hv w hw)
 have M := hide1 (x_writeMach mb rb X hX n v hv w hw)
 have C := hide1 (x_writeCounter mb rb X hX n v hv w hw)
 unfold wcsX
 clear hX hw
 by_cases h1 : 256 <= n /\ n <= 511
 . rw [if_pos h1]
   obtain ⟨a1, a2⟩ := h1
   have q1 : decide (256 <= n) = true := by simp [a1]
   have q2 : decide (n <= 511) = true := by simp [a2]
   go_enter func279, ntmps279
   go_wp2_with (go_at_call 350; refine S.out.mono ?_; rintro o w1 ⟨rfl, hx1, hk1⟩)
   go_end0
   exact ⟨rfl, hx1, hk1⟩
 rw [if_neg h1]
 by_cases h2 : 768 <= n /\ n <= 1023
 . rw [if_pos h2]
   obtain ⟨a1, a2⟩ := h2
   have q1 : decide (256 <= n) = true := by simp; omega
   have q2 : decide (n <= 511) = false := by simp; omega
   have q3 : decide (768 <= n) = true := by simp [a1]
   have q4 : decide (n <= 1023) = true := by simp [a2]
   clear h1
   go_enter func279, ntmps279
   go_wp2_with (go_at_call 351; refine M.out.mono ?_; rintro o w1 ⟨rfl, hx1, hk1⟩)
   go_end0
   exact ⟨rfl, hx1, hk1⟩
 rw [if_neg h2]
 clear S M
 go_enter func279, ntmps279
 go_wp2_with (go_at_call 352; refine C.out.mono ?_; rintro o w1 ⟨rfl, hx1, hk1⟩)
 all_goals first
  | (exfalso; omega)
  | (go_end0; exact ⟨rfl, hx1, hk1⟩)
theorem sup_lt (X : XS) (hX : XOk X) (n : Int) : (supD X n).1 < 4294967296 := by
 have a1 := hX.mstatus; have a2 := hX.mie; have a3 := hX.stvec; have a4 := hX.scen; have a5 := hX.sscratch; have a6 := hX.sepc; have a7 := hX.scause; have a8 := hX.stval; have a9 := hX.satp
 have p := pen_lt X hX
 have b1 : (X.c.mstatus &&& 786722) <= X.c.mstatus := Nat.and_le_left
 have b2 : (X.c.mie &&& X.c.mideleg) <= X.c.mie := Nat.and_le_left
 have b3 : (penD X &&& X.c.mideleg) <= penD X := Nat.and_le_left
 unfold supD
 repeat' split
 all_goals first | (dsimp only; omega) | omega | (show (0 : Nat) < _; omega) | (show (1075056901 : Nat) < _; omega) | (rename_i h; split at h <;> simp_all)
theorem ite_fst {c : Prop} [Decidable c] {a b : Nat × Bool} (ha : a.1 < 4294967296) (hb : b.1 < 4294967296) : (if c then a else b).1 < 4294967296 := by split <;> assumption
theorem mac_lt (X : XS) (hX : XOk X) (n : Int) : (macD X n).1 < 4294967296 := by
 have a4 := hX.mcen
 have a9 := hX.minh
 have p := pen_lt X hX
 unfold macD
 refine ite_fst hX.mstatus (ite_fst (by decide) (ite_fst hX.medeleg (ite_fst hX.mideleg (ite_fst hX.mie (ite_fst hX.mtvec (ite_fst (Nat.lt_trans a4 (by decide)) (ite_fst (Nat.lt_trans a9 (by decide)) (ite_fst hX.mscratch (ite_fst hX.mepc (ite_fst hX.mcause (ite_fst hX.mtval (ite_fst (Nat.lt_trans p (by decide)) (show (0 : Nat) < 4294967296 by decide)))))))))))))
theorem cnt_lt (X : XS) (hX : XOk X) (n : Nat) : (cntD X n).1 < 4294967296 := by
 have a1 := hX.cyc; have a2 := hX.cych; have a3 := hX.ret; have a4 := hX.reth; have a5 := hX.b.time; have a6 := hX.b.timeh
 unfold cntD cnV
 repeat' split
 all_goals first | (dsimp only; omega) | omega | (show (0 : Nat) < _; omega) | (show (1075056901 : Nat) < _; omega) | (rename_i h; split at h <;> simp_all)
theorem rcs_lt (X : XS) (hX : XOk X) (n : Int) : (rcsD X n).1 < 4294967296 := by
 unfold rcsD
 repeat' split
 . exact sup_lt X hX n
 . exact mac_lt X hX n
 . exact cnt_lt X hX _
 . dsimp only; omega
theorem chg_lt (op : Int) (a b : Nat) (ha : a < 4294967296) (hb : b < 4294967296) : xchgD op a b < 4294967296 := by
 unfold xchgD
 repeat' split
 . exact nat_or_lt a b 32 ha hb
 . exact Nat.lt_of_le_of_lt (wout_le _ _) ha
 . exact hb
def opdD (X : XS) (i : NI) : Nat := if i.op <= 63 then X.x.getD i.rs1 0 else i.rs1
def ccrX (X : XS) (i : NI) : XS :=
 if wrcB i = true then wcsX (setXR X i.rd (rcsD X i.im).1) i.im (xchgD i.op (if i.im = 836 then X.c.mip else (rcsD X i.im).1) (opdD X i)) else setXR X i.rd (rcsD X i.im).1
theorem XS.okR {X : XS} (hX : XOk X) (d v : Nat) (hv : v < 4294967296) : XOk (setXR X d v) := by
 unfold setXR
 split
 . exact hX
 . refine ⟨hX.b, by simpa using hX.x, ?_, hX.pc, hX.mode, hX.mstatus, hX.satp, hX.mie, hX.mip, hX.medeleg, hX.mideleg, hX.mtvec, hX.mcen, hX.minh, hX.mscratch, hX.mepc, hX.mcause, hX.mtval, hX.stvec, hX.scen, hX.sscratch, hX.sepc, hX.scause, hX.stval, hX.cyc, hX.cych, hX.ret, hX.reth, hX.resv, hX.mpp⟩
   intro i
   dsimp only
   by_cases hd : d < 32
   . rw [getD_set32 X.x d i v hX.x hd]
     split
     . exact hv
     . exact hX.xr i
   . rw [List.set_eq_of_length_le (by rw [hX.x]; omega)]
     exact hX.xr i
theorem x_changeCsr_rn (mb rb X) (hX : XOk X) (i : NI) (hi : NIOk i) (hlo : i.op <= 63) (hwr : wrcB i = false) (w) (hw : Hid (XAt w mb rb X)) :
 CX 203 #[.pointer (some ⟨mb, 0, none⟩), niV i] (.tuple #[]) [mb] mb rb (ccrX X i) w := by
 have hlt := hw.out.lt
 have hrlt := hw.out.rlt
 have hlt' : ¬ mb = w.heap.size := by omega
 have A1 := hide1 (fun W h => x_register mb rb X i.rs1 hi.rs1 W h)
 have hwa : Hid (XAt (w.alloc (niC i)) mb rb X) := zq10
 have RC := hide1 (fun W h => x_readCsr mb rb X hX i.im W h)
 have hcl := rcs_lt X hX i.im
 have hol : opdD X i < 4294967296 := by
  unfold opdD; split
  . exact hX.xr _
  . have := hi.rs1; omega
 have hmip := hX.mip
 have WC := hide1 (fun W => x_writesCsr i W)
 unfold ccrX
 have hOK := XS.okR hX i.rd (rcsD X i.im).1 hcl
 have SR := hide1 (fun W h => x_setRegister mb rb X hX.x i.rd (rcsD X i.im).1 hi.rd W h)
 simp only [hwr] at WC
 rw [if_neg (by rw [hwr]; simp)]
 have hop : opdD X i = X.x.getD i.rs1 0 := by unfold opdD; rw [if_pos hlo]
 rw [hop] at hol
 obtain ⟨⟨cv, cb⟩, hR⟩ : ∃ r, r = rcsD X i.im := ⟨_, rfl⟩
 simp only [<- hR] at RC hcl hOK SR  |-
 try dsimp only at RC hcl hOK SR  |-
 unfold niC at hwa WC
 unfold niV at WC |-
 have hmp : (setXR X i.rd cv).c.mip = X.c.mip := zq112
 obtain ⟨op, rd, rs1, rs2, im, ln⟩ := i
 dsimp only at *
 obtain ⟨Y, hY⟩ := zn1 (setXR X rd cv)
 simp only [<- hY] at SR hOK hmp  |-
 have qlo : decide (op <= 63) = true := by simp [hlo]
 exact zq297
theorem x_changeCsr_rw (mb rb X) (hX : XOk X) (i : NI) (hi : NIOk i) (hlo : i.op <= 63) (hwr : wrcB i = true) (hm : ¬ i.im = 836) (w) (hw : Hid (XAt w mb rb X)) :
 CX 203 #[.pointer (some ⟨mb, 0, none⟩), niV i] (.tuple #[]) [mb] mb rb (ccrX X i) w := by
 have hlt := hw.out.lt
 have hrlt := hw.out.rlt
 have hlt' : ¬ mb = w.heap.size := by omega
 have A1 := hide1 (fun W h => x_register mb rb X i.rs1 hi.rs1 W h)
 have hwa : Hid (XAt (w.alloc (niC i)) mb rb X) := zq10
 have RC := hide1 (fun W h => x_readCsr mb rb X hX i.im W h)
 have hcl := rcs_lt X hX i.im
 have hol : opdD X i < 4294967296 := by
  unfold opdD; split
  . exact hX.xr _
  . have := hi.rs1; omega
 have hmip := hX.mip
 have WC := hide1 (fun W => x_writesCsr i W)
 unfold ccrX
 have hOK := XS.okR hX i.rd (rcsD X i.im).1 hcl
 have SR := hide1 (fun W h => x_setRegister mb rb X hX.x i.rd (rcsD X i.im).1 hi.rd W h)
 simp only [hwr] at WC
 rw [if_pos hwr, if_neg hm]
 have hop : opdD X i = X.x.getD i.rs1 0 := by unfold opdD; rw [if_pos hlo]
 rw [hop] at hol
 rw [hop]
 have CH := hide1 (x_changed i.op (rcsD X i.im).1 (X.x.getD i.rs1 0) hcl hol)
 have hchl := chg_lt i.op (rcsD X i.im).1 (X.x.getD i.rs1 0) hcl hol
 have CW := hide1 (fun W h => x_csrsWrite mb rb (setXR X i.rd (rcsD X i.im).1) hOK i.im (xchgD i.op (rcsD X i.im).1 (X.x.getD i.rs1 0)) hchl W h)
 obtain ⟨nv, hnv⟩ := zn1 (xchgD i.op (rcsD X i.im).1 (X.x.getD i.rs1 0))
 simp only [<- hnv] at CH CW hchl |-
 clear hnv
 obtain ⟨⟨cv, cb⟩, hR⟩ : ∃ r, r = rcsD X i.im := ⟨_, rfl⟩
 simp only [<- hR] at RC hcl hOK SR CH CW |-
 try dsimp only at RC hcl hOK SR CH CW |-
 unfold niC at hwa WC
 unfold niV at WC |-
 have hmp : (setXR X i.rd cv).c.mip = X.c.mip := zq112
 obtain ⟨op, rd, rs1, rs2, im, ln⟩ := i
 dsimp only at *
 obtain ⟨Y, hY⟩ := zn1 (setXR X rd cv)
 simp only [<- hY] at SR hOK hmp CH CW |-
 have qlo : decide (op <= 63) = true := by simp [hlo]
 exact zq298
theorem x_changeCsr_rm (mb rb X) (hX : XOk X) (i : NI) (hi : NIOk i) (hlo : i.op <= 63) (hwr : wrcB i = true) (hm : i.im = 836) (w) (hw : Hid (XAt w mb rb X)) :
 CX 203 #[.pointer (some ⟨mb, 0, none⟩), niV i] (.tuple #[]) [mb] mb rb (ccrX X i) w := by
 have hlt := hw.out.lt
 have hrlt := hw.out.rlt
 have hlt' : ¬ mb = w.heap.size := by omega
 have A1 := hide1 (fun W h => x_register mb rb X i.rs1 hi.rs1 W h)
 have hwa : Hid (XAt (w.alloc (niC i)) mb rb X) := zq10
 have RC := hide1 (fun W h => x_readCsr mb rb X hX i.im W h)
 have hcl := rcs_lt X hX i.im
 have hol : opdD X i < 4294967296 := by
  unfold opdD; split
  . exact hX.xr _
  . have := hi.rs1; omega
 have hmip := hX.mip
 have WC := hide1 (fun W => x_writesCsr i W)
 unfold ccrX
 have hOK := XS.okR hX i.rd (rcsD X i.im).1 hcl
 have SR := hide1 (fun W h => x_setRegister mb rb X hX.x i.rd (rcsD X i.im).1 hi.rd W h)
 simp only [hwr] at WC
 rw [if_pos hwr, if_pos hm]
 have hop : opdD X i = X.x.getD i.rs1 0 := by unfold opdD; rw [if_pos hlo]
 rw [hop] at hol
 rw [hop]
 have CH := hide1 (x_changed i.op X.c.mip (X.x.getD i.rs1 0) (by omega) hol)
 have hchl := chg_lt i.op X.c.mip (X.x.getD i.rs1 0) (by omega) hol
 have CW := hide1 (fun W h => x_csrsWrite mb rb (setXR X i.rd (rcsD X i.im).1) hOK i.im (xchgD i.op X.c.mip (X.x.getD i.rs1 0)) hchl W h)
 obtain ⟨nv, hnv⟩ := zn1 (xchgD i.op X.c.mip (X.x.getD i.rs1 0))
 simp only [<- hnv] at CH CW hchl |-
 clear hnv
 obtain ⟨⟨cv, cb⟩, hR⟩ : ∃ r, r = rcsD X i.im := ⟨_, rfl⟩
 simp only [<- hR] at RC hcl hOK SR CW |-
 try dsimp only at RC hcl hOK SR CW |-
 unfold niC at hwa WC
 unfold niV at WC |-
 have hmp : (setXR X i.rd cv).c.mip = X.c.mip := zq112
 obtain ⟨op, rd, rs1, rs2, im, ln⟩ := i
 dsimp only at *
 obtain ⟨Y, hY⟩ := zn1 (setXR X rd cv)
 simp only [<- hY] at SR hOK hmp CW |-
 have qlo : decide (op <= 63) = true := by simp [hlo]
 exact zq299
theorem x_changeCsr_in (mb rb X) (hX : XOk X) (i : NI) (hi : NIOk i) (hlo : ¬ i.op <= 63) (hwr : wrcB i = false) (w) (hw : Hid (XAt w mb rb X)) :
 CX 203 #[.pointer (some ⟨mb, 0, none⟩), niV i] (.tuple #[]) [mb] mb rb (ccrX X i) w := by
 have hlt := hw.out.lt
 have hrlt := hw.out.rlt
 have hlt' : ¬ mb = w.heap.size := by omega
 have A1 := hide1 (fun W h => x_register mb rb X i.rs1 hi.rs1 W h)
 have hwa : Hid (XAt (w.alloc (niC i)) mb rb X) := zq10
 have RC := hide1 (fun W h => x_readCsr mb rb X hX i.im W h)
 have hcl := rcs_lt X hX i.im
 have hol : opdD X i < 4294967296 := by
  unfold opdD; split
  . exact hX.xr _
  . have := hi.rs1; omega
 have hmip := hX.mip
 have WC := hide1 (fun W => x_writesCsr i W)
 unfold ccrX
 have hOK := XS.okR hX i.rd (rcsD X i.im).1 hcl
 have SR := hide1 (fun W h => x_setRegister mb rb X hX.x i.rd (rcsD X i.im).1 hi.rd W h)
 simp only [hwr] at WC
 rw [if_neg (by rw [hwr]; simp)]
 have hop : opdD X i = i.rs1 := by unfold opdD; rw [if_neg hlo]
 rw [hop] at hol
 obtain ⟨⟨cv, cb⟩, hR⟩ : ∃ r, r = rcsD X i.im := ⟨_, rfl⟩
 simp only [<- hR] at RC hcl hOK SR  |-
 try dsimp only at RC hcl hOK SR  |-
 unfold niC at hwa WC
 unfold niV at WC |-
 have hmp : (setXR X i.rd cv).c.mip = X.c.mip := zq112
 obtain ⟨op, rd, rs1, rs2, im, ln⟩ := i
 dsimp only at *
 obtain ⟨Y, hY⟩ := zn1 (setXR X rd cv)
 simp only [<- hY] at SR hOK hmp  |-
 have qlo : decide (op <= 63) = false := by simp; omega
 exact zq297
theorem x_changeCsr_iw (mb rb X) (hX : XOk X) (i : NI) (hi : NIOk i) (hlo : ¬ i.op <= 63) (hwr : wrcB i = true) (hm : ¬ i.im = 836) (w) (hw : Hid (XAt w mb rb X)) :
 CX 203 #[.pointer (some ⟨mb, 0, none⟩), niV i] (.tuple #[]) [mb] mb rb (ccrX X i) w := by
 have hlt := hw.out.lt
 have hrlt := hw.out.rlt
 have hlt' : ¬ mb = w.heap.size := by omega
 have A1 := hide1 (fun W h => x_register mb rb X i.rs1 hi.rs1 W h)
 have hwa : Hid (XAt (w.alloc (niC i)) mb rb X) := zq10
 have RC := hide1 (fun W h => x_readCsr mb rb X hX i.im W h)
 have hcl := rcs_lt X hX i.im
 have hol : opdD X i < 4294967296 := by
  unfold opdD; split
  . exact hX.xr _
  . have := hi.rs1; omega
 have hmip := hX.mip
 have WC := hide1 (fun W => x_writesCsr i W)
 unfold ccrX
 have hOK := XS.okR hX i.rd (rcsD X i.im).1 hcl
 have SR := hide1 (fun W h => x_setRegister mb rb X hX.x i.rd (rcsD X i.im).1 hi.rd W h)
 simp only [hwr] at WC
 rw [if_pos hwr, if_neg hm]
 have hop : opdD X i = i.rs1 := by unfold opdD; rw [if_neg hlo]
 rw [hop] at hol
 rw [hop]
 have CH := hide1 (x_changed i.op (rcsD X i.im).1 (i.rs1) hcl hol)
 have hchl := chg_lt i.op (rcsD X i.im).1 (i.rs1) hcl hol
 have CW := hide1 (fun W h => x_csrsWrite mb rb (setXR X i.rd (rcsD X i.im).1) hOK i.im (xchgD i.op (rcsD X i.im).1 (i.rs1)) hchl W h)
 obtain ⟨nv, hnv⟩ := zn1 (xchgD i.op (rcsD X i.im).1 (i.rs1))
 simp only [<- hnv] at CH CW hchl |-
 clear hnv
 obtain ⟨⟨cv, cb⟩, hR⟩ : ∃ r, r = rcsD X i.im := ⟨_, rfl⟩
 simp only [<- hR] at RC hcl hOK SR CH CW |-
 try dsimp only at RC hcl hOK SR CH CW |-
 unfold niC at hwa WC
 unfold niV at WC |-
 have hmp : (setXR X i.rd cv).c.mip = X.c.mip := zq112
 obtain ⟨op, rd, rs1, rs2, im, ln⟩ := i
 dsimp only at *
 obtain ⟨Y, hY⟩ := zn1 (setXR X rd cv)
 simp only [<- hY] at SR hOK hmp CH CW |-
 have qlo : decide (op <= 63) = false := by simp; omega
 exact zq298
theorem x_changeCsr_im (mb rb X) (hX : XOk X) (i : NI) (hi : NIOk i) (hlo : ¬ i.op <= 63) (hwr : wrcB i = true) (hm : i.im = 836) (w) (hw : Hid (XAt w mb rb X)) :
 CX 203 #[.pointer (some ⟨mb, 0, none⟩), niV i] (.tuple #[]) [mb] mb rb (ccrX X i) w := by
 have hlt := hw.out.lt
 have hrlt := hw.out.rlt
 have hlt' : ¬ mb = w.heap.size := by omega
 have A1 := hide1 (fun W h => x_register mb rb X i.rs1 hi.rs1 W h)
 have hwa : Hid (XAt (w.alloc (niC i)) mb rb X) := zq10
 have RC := hide1 (fun W h => x_readCsr mb rb X hX i.im W h)
 have hcl := rcs_lt X hX i.im
 have hol : opdD X i < 4294967296 := by
  unfold opdD; split
  . exact hX.xr _
  . have := hi.rs1; omega
 have hmip := hX.mip
 have WC := hide1 (fun W => x_writesCsr i W)
 unfold ccrX
 have hOK := XS.okR hX i.rd (rcsD X i.im).1 hcl
 have SR := hide1 (fun W h => x_setRegister mb rb X hX.x i.rd (rcsD X i.im).1 hi.rd W h)
 simp only [hwr] at WC
 rw [if_pos hwr, if_pos hm]
 have hop : opdD X i = i.rs1 := by unfold opdD; rw [if_neg hlo]
 rw [hop] at hol
 rw [hop]
 have CH := hide1 (x_changed i.op X.c.mip (i.rs1) (by omega) hol)
 have hchl := chg_lt i.op X.c.mip (i.rs1) (by omega) hol
 have CW := hide1 (fun W h => x_csrsWrite mb rb (setXR X i.rd (rcsD X i.im).1) hOK i.im (xchgD i.op X.c.mip (i.rs1)) hchl W h)
 obtain ⟨nv, hnv⟩ := zn1 (xchgD i.op X.c.mip (i.rs1))
 simp only [<- hnv] at CH CW hchl |-
 clear hnv
 obtain ⟨⟨cv, cb⟩, hR⟩ : ∃ r, r = rcsD X i.im := ⟨_, rfl⟩
 simp only [<- hR] at RC hcl hOK SR CW |-
 try dsimp only at RC hcl hOK SR CW |-
 unfold niC at hwa WC
 unfold niV at WC |-
 have hmp : (setXR X i.rd cv).c.mip = X.c.mip := zq112
 obtain ⟨op, rd, rs1, rs2, im, ln⟩ := i
 dsimp only at *
 obtain ⟨Y, hY⟩ := zn1 (setXR X rd cv)
 simp only [<- hY] at SR hOK hmp CW |-
 have qlo : decide (op <= 63) = false := by simp; omega
 exact zq299
theorem x_changeCsr (mb rb X) (hX : XOk X) (i : NI) (hi : NIOk i) (w) (hw : Hid (XAt w mb rb X)) :
 CX 203 #[.pointer (some ⟨mb, 0, none⟩), niV i] (.tuple #[]) [mb] mb rb (ccrX X i) w := by
 by_cases hlo : i.op <= 63
 . cases hwr : wrcB i with
   | false => exact x_changeCsr_rn mb rb X hX i hi hlo hwr w hw
   | true =>
    by_cases hm : i.im = 836
    . exact x_changeCsr_rm mb rb X hX i hi hlo hwr hm w hw
    . exact x_changeCsr_rw mb rb X hX i hi hlo hwr hm w hw
 . cases hwr : wrcB i with
   | false => exact x_changeCsr_in mb rb X hX i hi hlo hwr w hw
   | true =>
    by_cases hm : i.im = 836
    . exact x_changeCsr_im mb rb X hX i hi hlo hwr hm w hw
    . exact x_changeCsr_iw mb rb X hX i hi hlo hwr hm w hw
theorem hb_bit (v n : Nat) : xhbD v n = bitN v n := rfl
def mrcB (X : XS) (n : Nat) : Bool := if X.mode = 3 then true else if X.mode = 1 then bitN X.c.mcen (n % 32) else bitN (X.c.mcen &&& X.c.scen) (n % 32)
theorem x_mayReadCounter (mb rb X) (hX : XOk X) (n : Nat) (w) (hw : Hid (XAt w mb rb X)) :
 CK 278 #[.pointer (some ⟨mb, 0, none⟩), .int .i64 n] (.bool (mrcB X n)) w := by
 have c34 := hw.out.c34
 have c44 := hw.out.c44
 have c51 := hw.out.c51
 have h1 := hX.mcen
 have h2 := hX.scen
 have hal : (X.c.mcen &&& X.c.scen) < 4294967296 := Nat.lt_of_le_of_lt Nat.and_le_left (by omega)
 have q := b_and X.c.mcen X.c.scen (by omega) (by omega)
 have ek : (n : Int) % 32 = ((n % 32 : Nat) : Int) := by omega
 have H1 := hide1 (x_hasBit X.c.mcen (n % 32) (by omega))
 have H2 := hide1 (x_hasBit (X.c.mcen &&& X.c.scen) (n % 32) hal)
 simp only [hb_bit] at H1 H2
 unfold mrcB
 obtain ⟨k, hk⟩ := zn1 (n % 32)
 simp only [<- hk] at ek H1 H2 |-
 obtain ⟨b1, hb1⟩ := zn1 (bitN X.c.mcen k)
 obtain ⟨b2, hb2⟩ := zn1 (bitN (X.c.mcen &&& X.c.scen) k)
 simp only [<- hb1, <- hb2] at H1 H2 |-
 obtain ⟨u, hu⟩ := zn1 (X.c.mcen &&& X.c.scen)
 rw [<- hu] at q H2
 have hmo := hX.mode
 obtain ⟨m, hm⟩ := zn1 (X.mode)
 rw [<- hm] at c34 hmo |-
 clear hk hb1 hb2 hu hm hX hal h1 h2
 rcases hmo with rfl | rfl | rfl
 . go_enter func278, ntmps278
   go_upto_region 6 with fail
   go_quiet ((go_at_call 187; exact Calls.quiet_of_same (H2.out _)))
   go_wp2_with fail
   go_ret
   exact ⟨rfl, (Kept.refl _ _).drewN _⟩
 . go_enter func278, ntmps278
   go_wp2_with (go_at_call 187; refine (H1.out _).mono ?_; rintro o w5 ⟨rfl, rfl⟩)
   exact zq300
 . go_enter func278, ntmps278
   exact zq301
def mdoB (X : XS) (op : Int) : Bool := if X.mode = 3 then true else if X.mode = 1 then (!decide (op = 67) && !bitN X.c.mstatus (if op = 68 then 22 else if op = 69 then 21 else 20)) else false
theorem x_mayDo (mb rb X) (hX : XOk X) (op : Int) (w) (hw : Hid (XAt w mb rb X)) :
 CK 204 #[.pointer (some ⟨mb, 0, none⟩), .int .i64 op] (.bool (mdoB X op)) w := by
 have c34 := hw.out.c34
 have c38 := hw.out.c38
 have hs := hX.mstatus
 have hmo := hX.mode
 unfold mdoB
 obtain ⟨m, hm⟩ := zn1 (X.mode)
 rw [<- hm] at c34 hmo |-
 obtain ⟨s, hse⟩ := zn1 (X.c.mstatus)
 rw [<- hse] at c38 hs |-
 have HF := hide1 (x_forbidding op)
 have p1 : ∃ f : Nat, (f : Int) = xforD op /\ f < 4294967296 /\ (bits .and .i64 (s : Int) (f : Int) == 0) = !bitN s (if op = 68 then 22 else if op = 69 then 21 else 20) := by
  unfold xforD
  by_cases h1 : op = 68
  . refine ⟨4194304, by simp [h1], by decide, ?_⟩
    rw [b_and s 4194304 (by omega) (by omega), eq0, if_pos h1]; exact t_bit s 22
  . by_cases h2 : op = 69
    . refine ⟨2097152, by simp [h1, h2], by decide, ?_⟩
      rw [b_and s 2097152 (by omega) (by omega), eq0, if_neg h1, if_pos h2]; exact t_bit s 21
    . refine ⟨1048576, by simp [h1, h2], by decide, ?_⟩
      rw [b_and s 1048576 (by omega) (by omega), eq0, if_neg h1, if_neg h2]; exact t_bit s 20
 obtain ⟨f, hf1, hfl, hf2⟩ := p1
 simp only [<- hf1] at HF
 obtain ⟨b, hb⟩ := zn1 (bitN s (if op = 68 then 22 else if op = 69 then 21 else 20))
 rw [<- hb] at hf2 |-
 clear hm hse hb hf1 hX
 rcases hmo with rfl | rfl | rfl
 . exact zq302
 . by_cases h67 : op = 67
   . subst h67
     go_enter func204, ntmps204
     go_upto_region 5 with fail
     go_quiet ((go_at_call 281; exact Calls.quiet_of_same (HF.out _)))
     go_wp2_with fail
     go_ret
     exact ⟨rfl, (Kept.refl _ _).drewN _⟩
   . have q67 : (op != 67) = true := by simp [h67]
     rw [show decide (op = 67) = false by simp [h67]]
     clear h67
     go_enter func204, ntmps204
     go_upto_region 5 with fail
     go_quiet ((go_at_call 281; exact Calls.quiet_of_same (HF.out _)))
     go_wp2_with fail
     go_ret
     exact ⟨by simp, (Kept.refl _ _).drewN _⟩
 . exact zq302
theorem and256 (s : Nat) : (s &&& 256) / 256 = s / 256 % 2 := by
 have h := and_bit s 8
 rw [show (2 : Nat) ^ 8 = 256 from rfl] at h
 rw [h]
 have e : bitN s 8 = decide (s / 256 % 2 = 1) := rfl
 rw [e]
 rcases Nat.mod_two_eq_zero_or_one (s / 256) with h | h <;> rw [h] <;> rfl
def mrtX (X : XS) : XS := unresX { X with mode := X.c.mstatus / 2048 % 4, c := { X.c with mstatus := xmretD X.c.mstatus } }
def srtX (X : XS) : XS := unresX { X with mode := X.c.mstatus / 256 % 2, c := { X.c with mstatus := xsretD X.c.mstatus } }
def prvX (X : XS) (op : Int) : XS := if op = 67 then mrtX X else if op = 68 then srtX X else if op = 69 then { X with waits := true } else X
theorem x_privileged (mb rb X) (hX : XOk X) (op : Int) (w) (hw : Hid (XAt w mb rb X)) :
 CX 205 #[.pointer (some ⟨mb, 0, none⟩), .int .i64 op] (.tuple #[]) [mb] mb rb (prvX X op) w := by
 have c34 := hw.out.c34
 have c35 := hw.out.c35
 have c38 := hw.out.c38
 have hfr := hw.out.fro
 have hs := hX.mstatus
 unfold prvX
 by_cases h1 : op = 67
 . subst h1
   rw [if_pos rfl]
   unfold mrtX
   have p3 : bits .and .i64 (X.c.mstatus : Int) 6144 = ((X.c.mstatus &&& 6144 : Nat) : Int) := b_and X.c.mstatus 6144 (by omega) (by omega)
   have p4 : bits .and .i64 (X.c.mstatus : Int) 6144 / 2048 = ((X.c.mstatus / 2048 % 4 : Nat) : Int) := by rw [p3, <- and6144]; simp
   have MR := hide1 (x_machReturned X.c.mstatus hs)
   obtain ⟨r, hr⟩ := zn1 (xmretD X.c.mstatus)
   simp only [<- hr] at MR |-
   obtain ⟨m, hm⟩ := zn1 (X.c.mstatus / 2048 % 4)
   rw [<- hm] at p4 |-
   have UR := hide1 (fun W h => x_unreserve mb rb { X with mode := m, c := { X.c with mstatus := r } } W h)
   clear hr hm hX p3
   go_enter func205, ntmps205
   go_wp2_with (go_at_call 282; refine (MR.out _).mono ?_; rintro o w5 ⟨rfl, rfl⟩)
   exact zq303
 rw [if_neg h1]
 have q1 : (op == 67) = false := by simp [h1]
 by_cases h2 : op = 68
 . subst h2
   rw [if_pos rfl]
   unfold srtX
   have p3 : bits .and .i64 (X.c.mstatus : Int) 256 = ((X.c.mstatus &&& 256 : Nat) : Int) := b_and X.c.mstatus 256 (by omega) (by omega)
   have p4 : bits .and .i64 (X.c.mstatus : Int) 256 / 256 = ((X.c.mstatus / 256 % 2 : Nat) : Int) := by rw [p3, <- and256]; simp
   have MR := hide1 (x_superReturned X.c.mstatus hs)
   obtain ⟨r, hr⟩ := zn1 (xsretD X.c.mstatus)
   simp only [<- hr] at MR |-
   obtain ⟨m, hm⟩ := zn1 (X.c.mstatus / 256 % 2)
   rw [<- hm] at p4 |-
   have UR := hide1 (fun W h => x_unreserve mb rb { X with mode := m, c := { X.c with mstatus := r } } W h)
   clear hr hm hX p3 h1
   go_enter func205, ntmps205
   go_wp2_with (go_at_call 283; refine (MR.out _).mono ?_; rintro o w5 ⟨rfl, rfl⟩)
   exact zq303
 rw [if_neg h2]
 have q2 : (op == 68) = false := by simp [h2]
 by_cases h3 : op = 69
 . subst h3
   rw [if_pos rfl]
   clear hX h1 h2
   go_enter func205, ntmps205
   go_wp2_with fail
   go_end0
   exact ⟨rfl, hw.out.set 35 _ rfl rfl (by omega), (Kept.refl _ _).setCell (.inl (by simp)) _⟩
 rw [if_neg h3]
 have q3 : (op == 69) = false := by simp [h3]
 clear hX h1 h2 h3
 go_enter func205, ntmps205
 go_wp2_with fail
 go_end0
 exact zq224
def tsX (X : XS) (c t : Nat) : XS := { X with mode := 1, pc := xhdlD X.c.stvec c, c := { X.c with sepc := X.pc, scause := c, stval := t, mstatus := xstrD X.c.mstatus X.mode } }
def tmX (X : XS) (c t : Nat) : XS := { X with mode := 3, pc := xhdlD X.c.mtvec c, c := { X.c with mepc := X.pc, mcause := c, mtval := t, mstatus := xmtrD X.c.mstatus X.mode } }
theorem x_trapToSuper (mb rb X) (hX : XOk X) (c t : Nat) (hc : c < 4294967296) (w) (hw : Hid (XAt w mb rb X)) :
 CX 129 #[.pointer (some ⟨mb, 0, none⟩), .int .i64 c, .int .i64 t] (.tuple #[]) [mb] mb rb (tsX X c t) w := by
 have c33 := hw.out.c33
 have c34 := hw.out.c34
 have c38 := hw.out.c38
 have cv := hw.out.c50
 have ca := hw.out.c53
 have cb := hw.out.c54
 have cc := hw.out.c55
 have hfr := hw.out.fro
 have hs := hX.mstatus
 have hmo := hX.mode
 have hm4 : X.mode < 4 := by omega
 have hv := hX.stvec
 have ST := hide1 (x_superTrapped X.c.mstatus X.mode hs)
 have HD := hide1 (x_handler X.c.stvec c hv hc)
 unfold tsX
 obtain ⟨r, hr⟩ := zn1 (xstrD X.c.mstatus X.mode)
 simp only [<- hr] at ST |-
 obtain ⟨p, hp⟩ := zn1 (xhdlD X.c.stvec c)
 simp only [<- hp] at HD |-
 have HX : Hid (XAt ((((((w.setCell ⟨mb, 53, none⟩ (.int .i64 X.pc)).setCell ⟨mb, 54, none⟩ (.int .i64 c)).setCell ⟨mb, 55, none⟩ (.int .i64 t)).setCell ⟨mb, 38, none⟩ (.int .i64 r)).setCell ⟨mb, 34, none⟩ (.int .i64 1)).setCell ⟨mb, 33, none⟩ (.int .i64 p)) mb rb { X with mode := 1, pc := p, c := { X.c with sepc := X.pc, scause := c, stval := t, mstatus := r } }) := hide1 ((((((hw.out.set (X' := { X with c := { X.c with sepc := X.pc } }) 53 _ rfl rfl (by omega)).set (X' := { X with c := { X.c with sepc := X.pc, scause := c } }) 54 _ rfl rfl (by omega)).set (X' := { X with c := { X.c with sepc := X.pc, scause := c, stval := t } }) 55 _ rfl rfl (by omega)).set (X' := { X with c := { X.c with sepc := X.pc, scause := c, stval := t, mstatus := r } }) 38 _ rfl rfl (by omega)).set (X' := { X with mode := 1, c := { X.c with sepc := X.pc, scause := c, stval := t, mstatus := r } }) 34 _ rfl rfl (by omega)).set 33 _ rfl rfl (by omega))
 clear hr hp hX hmo hv hs
 go_enter func129, ntmps129
 go_upto_region 3 with fail
 go_region_with (go_at_call 188; refine (ST.out _).mono ?_; rintro o w5 ⟨rfl, rfl⟩)
 all_goals
  go_wp2_with (go_at_call 189; refine (HD.out _).mono ?_; rintro o w5 ⟨rfl, rfl⟩)
  go_end0
  refine ⟨rfl, ?_, ?_⟩
  . exact HX.out.drew
  . exact zq304
theorem x_trapToMach (mb rb X) (hX : XOk X) (c t : Nat) (hc : c < 4294967296) (w) (hw : Hid (XAt w mb rb X)) :
 CX 130 #[.pointer (some ⟨mb, 0, none⟩), .int .i64 c, .int .i64 t] (.tuple #[]) [mb] mb rb (tmX X c t) w := by
 have c33 := hw.out.c33
 have c34 := hw.out.c34
 have c38 := hw.out.c38
 have cv := hw.out.c43
 have ca := hw.out.c47
 have cb := hw.out.c48
 have cc := hw.out.c49
 have hfr := hw.out.fro
 have hs := hX.mstatus
 have hmo := hX.mode
 have hm4 : X.mode < 4 := by omega
 have hv := hX.mtvec
 have ST := hide1 (x_machTrapped X.c.mstatus X.mode hs hm4)
 have HD := hide1 (x_handler X.c.mtvec c hv hc)
 unfold tmX
 obtain ⟨r, hr⟩ := zn1 (xmtrD X.c.mstatus X.mode)
 simp only [<- hr] at ST |-
 obtain ⟨p, hp⟩ := zn1 (xhdlD X.c.mtvec c)
 simp only [<- hp] at HD |-
 have HX : Hid (XAt ((((((w.setCell ⟨mb, 47, none⟩ (.int .i64 X.pc)).setCell ⟨mb, 48, none⟩ (.int .i64 c)).setCell ⟨mb, 49, none⟩ (.int .i64 t)).setCell ⟨mb, 38, none⟩ (.int .i64 r)).setCell ⟨mb, 34, none⟩ (.int .i64 3)).setCell ⟨mb, 33, none⟩ (.int .i64 p)) mb rb { X with mode := 3, pc := p, c := { X.c with mepc := X.pc, mcause := c, mtval := t, mstatus := r } }) := hide1 ((((((hw.out.set (X' := { X with c := { X.c with mepc := X.pc } }) 47 _ rfl rfl (by omega)).set (X' := { X with c := { X.c with mepc := X.pc, mcause := c } }) 48 _ rfl rfl (by omega)).set (X' := { X with c := { X.c with mepc := X.pc, mcause := c, mtval := t } }) 49 _ rfl rfl (by omega)).set (X' := { X with c := { X.c with mepc := X.pc, mcause := c, mtval := t, mstatus := r } }) 38 _ rfl rfl (by omega)).set (X' := { X with mode := 3, c := { X.c with mepc := X.pc, mcause := c, mtval := t, mstatus := r } }) 34 _ rfl rfl (by omega)).set 33 _ rfl rfl (by omega))
 clear hr hp hX hmo hv hs
 go_enter func130, ntmps130
 go_upto_region 3 with fail
 go_region_with (go_at_call 190; refine (ST.out _).mono ?_; rintro o w5 ⟨rfl, rfl⟩)
 all_goals
  go_wp2_with (go_at_call 189; refine (HD.out _).mono ?_; rintro o w5 ⟨rfl, rfl⟩)
  go_end0
  refine ⟨rfl, ?_, ?_⟩
  . exact HX.out.drew
  . exact zq304
def tiX (X : XS) (c : Nat) : XS := if dlgB X X.c.mideleg c = true then tsX X (c + 2147483648) 0 else tmX X (c + 2147483648) 0
theorem x_trapInterrupt (mb rb X) (hX : XOk X) (c : Nat) (hc : c < 32) (w) (hw : Hid (XAt w mb rb X)) :
 CX 80 #[.pointer (some ⟨mb, 0, none⟩), .int .i64 c] (.tuple #[]) [mb] mb rb (tiX X c) w := by
 have c40 := hw.out.c40
 have DL := hide1 (x_delegates mb rb X X.c.mideleg c hX.mideleg w hw)
 have TS := hide1 (x_trapToSuper mb rb X hX (c + 2147483648) 0 (by omega))
 have TM := hide1 (x_trapToMach mb rb X hX (c + 2147483648) 0 (by omega))
 have ec : ((c + 2147483648 : Nat) : Int) = (c : Int) + 2147483648 := by omega
 have e0 : ((0 : Nat) : Int) = 0 := rfl
 rw [ec, e0] at TS TM
 unfold tiX
 obtain ⟨b, hb⟩ := zn1 (dlgB X X.c.mideleg c)
 rw [<- hb] at DL |-
 obtain ⟨YS, hYS⟩ := zn1 (tsX X (c + 2147483648) 0)
 obtain ⟨YM, hYM⟩ := zn1 (tmX X (c + 2147483648) 0)
 rw [<- hYS] at TS |-
 rw [<- hYM] at TM |-
 clear hb hYS hYM ec e0 hX
 cases b
 . go_enter func80, ntmps80
   go_wp2_with (first | (go_at_call 128; refine DL.out.mono ?_; rintro o w1 ⟨rfl, rfl⟩) | (go_at_call 130; refine (TM.out _ hw).mono ?_; rintro o w2 ⟨rfl, hx2, hk2⟩))
   go_end0
   exact ⟨rfl, hx2, hk2⟩
 . go_enter func80, ntmps80
   go_wp2_with (first | (go_at_call 128; refine DL.out.mono ?_; rintro o w1 ⟨rfl, rfl⟩) | (go_at_call 129; refine (TS.out _ hw).mono ?_; rintro o w2 ⟨rfl, hx2, hk2⟩))
   refine bodyPost_ret (results_none rfl _ _ _) rfl ?_
   exact ⟨rfl, hx2, hk2⟩
def teX (X : XS) (c t : Nat) : XS := if dlgB X X.c.medeleg c = true then tsX X c t else tmX X c t
theorem x_trapException (mb rb X) (hX : XOk X) (c t : Nat) (hc : c < 32) (w) (hw : Hid (XAt w mb rb X)) :
 CX 83 #[.pointer (some ⟨mb, 0, none⟩), .agg #[.int .i64 c, .int .i64 t]] (.tuple #[]) [mb] mb rb (teX X c t) w := by
 have c39 := hw.out.c39
 have hlt := hw.out.lt
 have hne : ¬ mb = w.heap.size := by omega
 have hwa : Hid (XAt (w.alloc (.cells #[.int .i64 c, .int .i64 t] 118)) mb rb X) := hide1 (hw.out.kept ((Kept.refl _ _).alloc _))
 have DL := hide1 (x_delegates mb rb X X.c.medeleg c hX.medeleg)
 have TS := hide1 (x_trapToSuper mb rb X hX c t (by omega))
 have TM := hide1 (x_trapToMach mb rb X hX c t (by omega))
 unfold teX
 obtain ⟨b, hb⟩ := zn1 (dlgB X X.c.medeleg c)
 rw [<- hb] at DL |-
 obtain ⟨YS, hYS⟩ := zn1 (tsX X c t)
 obtain ⟨YM, hYM⟩ := zn1 (tmX X c t)
 rw [<- hYS] at TS |-
 rw [<- hYM] at TM |-
 clear hb hYS hYM hX
 cases b
 . go_enter func83, ntmps83
   go_upto_region 1 with fail
   go_quiet ((go_at_call 128; exact Calls.quiet_of_same (DL.out _ (hide1 (hwa.out.kept ((Kept.refl [] _).drewN _))))))
   go_upto_region 3 with fail
   have hwb := hide1 (hwa.out.kept ((Kept.refl [] _).drewN nq))
   go_wp2_with (go_at_call 130; refine (TM.out _ hwb).mono ?_; rintro o w2 ⟨rfl, hx2, hk2⟩)
   go_end0
   exact zq305
 . go_enter func83, ntmps83
   go_upto_region 1 with fail
   go_quiet ((go_at_call 128; exact Calls.quiet_of_same (DL.out _ (hide1 (hwa.out.kept ((Kept.refl [] _).drewN _))))))
   go_upto_region 2 with fail
   have hwb := hide1 (hwa.out.kept ((Kept.refl [] _).drewN nq))
   go_wp2_with (go_at_call 129; refine (TS.out _ hwb).mono ?_; rintro o w2 ⟨rfl, hx2, hk2⟩)
   refine bodyPost_ret (results_none rfl _ _ _) rfl ?_
   exact zq305
def incL (a n : Nat) : Nat := (a + n) % 4294967296
def incH (a b n : Nat) : Nat := (b + (a + n) / 4294967296) % 4294967296
def cntB (X : XS) (b1 b2 : Bool) : XS := { X with c := { X.c with cyc := if b1 = true then incL X.c.cyc 1 else X.c.cyc, cych := if b1 = true then incH X.c.cyc X.c.cych 1 else X.c.cych, ret := if b2 = true then incL X.c.ret 1 else X.c.ret, reth := if b2 = true then incH X.c.ret X.c.reth 1 else X.c.reth } }
def cntX (X : XS) (r : Bool) (h : Nat) : XS := cntB X (!bitN h 0) (r && !bitN h 2)
theorem x_plusI (a b n : Nat) (ha : a < 4294967296) (hb : b < 4294967296) (hn : n < 4294967296) (w : World) :
 CK 85 #[.agg #[.int .i64 a, .int .i64 b], .int .i64 n] (.agg #[.int .i64 (incL a n), .int .i64 (incH a b n)]) w := x_plus a b n ha hb hn w
theorem x_count_000 (mb rb X) (hX : XOk X) (h : Nat) (hh : h < 4294967296) (hb1 : bitN h 0 = true) (w) (hw : Hid (XAt w mb rb X)) :
 CX 38 #[.pointer (some ⟨mb, 0, none⟩), .bool false, .int .i64 h] (.tuple #[]) [mb] mb rb (cntB X false false) w := by
 have c57 := hw.out.c57
 have c58 := hw.out.c58
 have c59 := hw.out.c59
 have c60 := hw.out.c60
 have hfr := hw.out.fro
 have q1 : (bits .and .i64 (h : Int) 1 == 0) = false := by
  rw [show (1 : Int) = ((1 : Nat) : Int) from rfl, b_and h 1 (by omega) (by omega), eq0]; exact (t_bit h 0).trans (by rw [hb1]; rfl)
 have P1 := hide1 (x_plusI X.c.cyc X.c.cych 1 hX.cyc hX.cych (by omega))
 have P2 := hide1 (x_plusI X.c.ret X.c.reth 1 hX.ret hX.reth (by omega))
 have e1 : ((1 : Nat) : Int) = 1 := rfl
 rw [e1] at P1 P2
 unfold cntB
 obtain ⟨u1, hu1⟩ := zn1 (incL X.c.cyc 1)
 obtain ⟨v1, hv1⟩ := zn1 (incH X.c.cyc X.c.cych 1)
 obtain ⟨u2, hu2⟩ := zn1 (incL X.c.ret 1)
 obtain ⟨v2, hv2⟩ := zn1 (incH X.c.ret X.c.reth 1)
 simp only [<- hu1, <- hv1] at P1 |-
 simp only [<- hu2, <- hv2] at P2 |-
 clear hu1 hv1 hu2 hv2 e1 hX hb1
 exact zq306
theorem x_count_010 (mb rb X) (hX : XOk X) (h : Nat) (hh : h < 4294967296) (hb1 : bitN h 0 = true) (hb2 : bitN h 2 = true) (w) (hw : Hid (XAt w mb rb X)) :
 CX 38 #[.pointer (some ⟨mb, 0, none⟩), .bool true, .int .i64 h] (.tuple #[]) [mb] mb rb (cntB X false false) w := by
 have c57 := hw.out.c57
 have c58 := hw.out.c58
 have c59 := hw.out.c59
 have c60 := hw.out.c60
 have hfr := hw.out.fro
 have q1 : (bits .and .i64 (h : Int) 1 == 0) = false := by
  rw [show (1 : Int) = ((1 : Nat) : Int) from rfl, b_and h 1 (by omega) (by omega), eq0]; exact (t_bit h 0).trans (by rw [hb1]; rfl)
 have q2 : (bits .and .i64 (h : Int) 4 == 0) = false := by
  rw [show (4 : Int) = ((4 : Nat) : Int) from rfl, b_and h 4 (by omega) (by omega), eq0]; exact (t_bit h 2).trans (by rw [hb2]; rfl)
 have P1 := hide1 (x_plusI X.c.cyc X.c.cych 1 hX.cyc hX.cych (by omega))
 have P2 := hide1 (x_plusI X.c.ret X.c.reth 1 hX.ret hX.reth (by omega))
 have e1 : ((1 : Nat) : Int) = 1 := rfl
 rw [e1] at P1 P2
 unfold cntB
 obtain ⟨u1, hu1⟩ := zn1 (incL X.c.cyc 1)
 obtain ⟨v1, hv1⟩ := zn1 (incH X.c.cyc X.c.cych 1)
 obtain ⟨u2, hu2⟩ := zn1 (incL X.c.ret 1)
 obtain ⟨v2, hv2⟩ := zn1 (incH X.c.ret X.c.reth 1)
 simp only [<- hu1, <- hv1] at P1 |-
 simp only [<- hu2, <- hv2] at P2 |-
 clear hu1 hv1 hu2 hv2 e1 hX hb1 hb2
 exact zq306
theorem x_count_011 (mb rb X) (hX : XOk X) (h : Nat) (hh : h < 4294967296) (hb1 : bitN h 0 = true) (hb2 : bitN h 2 = false) (w) (hw : Hid (XAt w mb rb X)) :
 CX 38 #[.pointer (some ⟨mb, 0, none⟩), .bool true, .int .i64 h] (.tuple #[]) [mb] mb rb (cntB X false true) w := by
 have c57 := hw.out.c57
 have c58 := hw.out.c58
 have c59 := hw.out.c59
 have c60 := hw.out.c60
 have hfr := hw.out.fro
 have q1 : (bits .and .i64 (h : Int) 1 == 0) = false := by
  rw [show (1 : Int) = ((1 : Nat) : Int) from rfl, b_and h 1 (by omega) (by omega), eq0]; exact (t_bit h 0).trans (by rw [hb1]; rfl)
 have q2 : (bits .and .i64 (h : Int) 4 == 0) = true := by
  rw [show (4 : Int) = ((4 : Nat) : Int) from rfl, b_and h 4 (by omega) (by omega), eq0]; exact (t_bit h 2).trans (by rw [hb2]; rfl)
 have P1 := hide1 (x_plusI X.c.cyc X.c.cych 1 hX.cyc hX.cych (by omega))
 have P2 := hide1 (x_plusI X.c.ret X.c.reth 1 hX.ret hX.reth (by omega))
 have e1 : ((1 : Nat) : Int) = 1 := rfl
 rw [e1] at P1 P2
 unfold cntB
 obtain ⟨u1, hu1⟩ := zn1 (incL X.c.cyc 1)
 obtain ⟨v1, hv1⟩ := zn1 (incH X.c.cyc X.c.cych 1)
 obtain ⟨u2, hu2⟩ := zn1 (incL X.c.ret 1)
 obtain ⟨v2, hv2⟩ := zn1 (incH X.c.ret X.c.reth 1)
 simp only [<- hu1, <- hv1] at P1 |-
 simp only [<- hu2, <- hv2] at P2 |-
 clear hu1 hv1 hu2 hv2 e1 hX hb1 hb2
 go_enter func38, ntmps38
 go_wp2_with (go_at_call 85; refine (P2.out _).mono ?_; rintro o w2 ⟨rfl, hk2⟩; have hx2 := hide1 (XAt.kept (by first | exact hw.out | exact hw.out.drew | exact hw.out.drew.drew) hk2); have e59 := hx2.out.c59; have e60 := hx2.out.c60; have efr := hx2.out.fro)
 all_goals
  go_end0
  refine ⟨rfl, ?_, ?_⟩
  . first | exact ((hx2.out.set (X' := { X with c := { X.c with ret := u2 } }) 59 _ rfl rfl (by omega)).set (X' := { X with c := { X.c with ret := u2, reth := v2 } }) 60 _ rfl rfl (by omega)) | exact ((hx2.out.set (X' := { X with c := { X.c with ret := u2 } }) 59 _ rfl rfl (by omega)).set (X' := { X with c := { X.c with ret := u2, reth := v2 } }) 60 _ rfl rfl (by omega)).drew | exact ((hx2.out.set (X' := { X with c := { X.c with ret := u2 } }) 59 _ rfl rfl (by omega)).set (X' := { X with c := { X.c with ret := u2, reth := v2 } }) 60 _ rfl rfl (by omega)).drew.drew
  . repeat (first | (with_reducible exact Kept.refl _ _) | (with_reducible refine Kept.setM ?_ _ _) | (with_reducible refine Kept.setCell ?_ (Or.inr zq491) _) | (with_reducible refine Kept.drew ?_) | (with_reducible refine Kept.drewN ?_ _) | (with_reducible refine Kept.alloc ?_ _) | (with_reducible refine Kept.trans ?_ (hk2.mono (by simp))))
theorem x_count_100 (mb rb X) (hX : XOk X) (h : Nat) (hh : h < 4294967296) (hb1 : bitN h 0 = false) (w) (hw : Hid (XAt w mb rb X)) :
 CX 38 #[.pointer (some ⟨mb, 0, none⟩), .bool false, .int .i64 h] (.tuple #[]) [mb] mb rb (cntB X true false) w := by
 have c57 := hw.out.c57
 have c58 := hw.out.c58
 have c59 := hw.out.c59
 have c60 := hw.out.c60
 have hfr := hw.out.fro
 have q1 : (bits .and .i64 (h : Int) 1 == 0) = true := by
  rw [show (1 : Int) = ((1 : Nat) : Int) from rfl, b_and h 1 (by omega) (by omega), eq0]; exact (t_bit h 0).trans (by rw [hb1]; rfl)
 have P1 := hide1 (x_plusI X.c.cyc X.c.cych 1 hX.cyc hX.cych (by omega))
 have P2 := hide1 (x_plusI X.c.ret X.c.reth 1 hX.ret hX.reth (by omega))
 have e1 : ((1 : Nat) : Int) = 1 := rfl
 rw [e1] at P1 P2
 unfold cntB
 obtain ⟨u1, hu1⟩ := zn1 (incL X.c.cyc 1)
 obtain ⟨v1, hv1⟩ := zn1 (incH X.c.cyc X.c.cych 1)
 obtain ⟨u2, hu2⟩ := zn1 (incL X.c.ret 1)
 obtain ⟨v2, hv2⟩ := zn1 (incH X.c.ret X.c.reth 1)
 simp only [<- hu1, <- hv1] at P1 |-
 simp only [<- hu2, <- hv2] at P2 |-
 clear hu1 hv1 hu2 hv2 e1 hX hb1
 exact zq307
theorem x_count_110 (mb rb X) (hX : XOk X) (h : Nat) (hh : h < 4294967296) (hb1 : bitN h 0 = false) (hb2 : bitN h 2 = true) (w) (hw : Hid (XAt w mb rb X)) :
 CX 38 #[.pointer (some ⟨mb, 0, none⟩), .bool true, .int .i64 h] (.tuple #[]) [mb] mb rb (cntB X true false) w := by
 have c57 := hw.out.c57
 have c58 := hw.out.c58
 have c59 := hw.out.c59
 have c60 := hw.out.c60
 have hfr := hw.out.fro
 have q1 : (bits .and .i64 (h : Int) 1 == 0) = true := by
  rw [show (1 : Int) = ((1 : Nat) : Int) from rfl, b_and h 1 (by omega) (by omega), eq0]; exact (t_bit h 0).trans (by rw [hb1]; rfl)
 have q2 : (bits .and .i64 (h : Int) 4 == 0) = false := by
  rw [show (4 : Int) = ((4 : Nat) : Int) from rfl, b_and h 4 (by omega) (by omega), eq0]; exact (t_bit h 2).trans (by rw [hb2]; rfl)
 have P1 := hide1 (x_plusI X.c.cyc X.c.cych 1 hX.cyc hX.cych (by omega))
 have P2 := hide1 (x_plusI X.c.ret X.c.reth 1 hX.ret hX.reth (by omega))
 have e1 : ((1 : Nat) : Int) = 1 := rfl
 rw [e1] at P1 P2
 unfold cntB
 obtain ⟨u1, hu1⟩ := zn1 (incL X.c.cyc 1)
 obtain ⟨v1, hv1⟩ := zn1 (incH X.c.cyc X.c.cych 1)
 obtain ⟨u2, hu2⟩ := zn1 (incL X.c.ret 1)
 obtain ⟨v2, hv2⟩ := zn1 (incH X.c.ret X.c.reth 1)
 simp only [<- hu1, <- hv1] at P1 |-
 simp only [<- hu2, <- hv2] at P2 |-
 clear hu1 hv1 hu2 hv2 e1 hX hb1 hb2
 exact zq307
theorem x_count_111 (mb rb X) (hX : XOk X) (h : Nat) (hh : h < 4294967296) (hb1 : bitN h 0 = false) (hb2 : bitN h 2 = false) (w) (hw : Hid (XAt w mb rb X)) :
 CX 38 #[.pointer (some ⟨mb, 0, none⟩), .bool true, .int .i64 h] (.tuple #[]) [mb] mb rb (cntB X true true) w := by
 have c57 := hw.out.c57
 have c58 := hw.out.c58
 have c59 := hw.out.c59
 have c60 := hw.out.c60
 have hfr := hw.out.fro
 have q1 : (bits .and .i64 (h : Int) 1 == 0) = true := by
  rw [show (1 : Int) = ((1 : Nat) : Int) from rfl, b_and h 1 (by omega) (by omega), eq0]; exact (t_bit h 0).trans (by rw [hb1]; rfl)
 have q2 : (bits .and .i64 (h : Int) 4 == 0) = true := by
  rw [show (4 : Int) = ((4 : Nat) : Int) from rfl, b_and h 4 (by omega) (by omega), eq0]; exact (t_bit h 2).trans (by rw [hb2]; rfl)
 have P1 := hide1 (x_plusI X.c.cyc X.c.cych 1 hX.cyc hX.cych (by omega))
 have P2 := hide1 (x_plusI X.c.ret X.c.reth 1 hX.ret hX.reth (by omega))
 have e1 : ((1 : Nat) : Int) = 1 := rfl
 rw [e1] at P1 P2
 unfold cntB
 obtain ⟨u1, hu1⟩ := zn1 (incL X.c.cyc 1)
 obtain ⟨v1, hv1⟩ := zn1 (incH X.c.cyc X.c.cych 1)
 obtain ⟨u2, hu2⟩ := zn1 (incL X.c.ret 1)
 obtain ⟨v2, hv2⟩ := zn1 (incH X.c.ret X.c.reth 1)
 simp only [<- hu1, <- hv1] at P1 |-
 simp only [<- hu2, <- hv2] at P2 |-
 clear hu1 hv1 hu2 hv2 e1 hX hb1 hb2
 go_enter func38, ntmps38
 go_upto_region 3 with (go_at_call 85; refine (P1.out _).mono ?_; rintro o w1 ⟨rfl, hk1⟩; have hx1 := hide1 (hw.out.kept (Kept.trans zq522 hk1)); have d57 := hx1.out.c57; have d58 := hx1.out.c58; have d59 := hx1.out.c59; have d60 := hx1.out.c60; have dfr := hx1.out.fro)
 all_goals
  go_wp2_with (go_at_call 85; refine (P2.out _).mono ?_; rintro o w2 ⟨rfl, hk2⟩; have hx2 := hide1 (XAt.kept (by first | exact ((hx1.out.set (X' := { X with c := { X.c with cyc := u1 } }) 57 _ rfl rfl (by omega)).set (X' := { X with c := { X.c with cyc := u1, cych := v1 } }) 58 _ rfl rfl (by omega)) | exact ((hx1.out.set (X' := { X with c := { X.c with cyc := u1 } }) 57 _ rfl rfl (by omega)).set (X' := { X with c := { X.c with cyc := u1, cych := v1 } }) 58 _ rfl rfl (by omega)).drew | exact ((hx1.out.set (X' := { X with c := { X.c with cyc := u1 } }) 57 _ rfl rfl (by omega)).set (X' := { X with c := { X.c with cyc := u1, cych := v1 } }) 58 _ rfl rfl (by omega)).drew.drew) hk2); have e59 := hx2.out.c59; have e60 := hx2.out.c60; have efr := hx2.out.fro)
 all_goals
  go_end0
  refine ⟨rfl, ?_, ?_⟩
  . first | exact ((hx2.out.set (X' := { X with c := { X.c with cyc := u1, cych := v1, ret := u2 } }) 59 _ rfl rfl (by omega)).set (X' := { X with c := { X.c with cyc := u1, cych := v1, ret := u2, reth := v2 } }) 60 _ rfl rfl (by omega)) | exact ((hx2.out.set (X' := { X with c := { X.c with cyc := u1, cych := v1, ret := u2 } }) 59 _ rfl rfl (by omega)).set (X' := { X with c := { X.c with cyc := u1, cych := v1, ret := u2, reth := v2 } }) 60 _ rfl rfl (by omega)).drew | exact ((hx2.out.set (X' := { X with c := { X.c with cyc := u1, cych := v1, ret := u2 } }) 59 _ rfl rfl (by omega)).set (X' := { X with c := { X.c with cyc := u1, cych := v1, ret := u2, reth := v2 } }) 60 _ rfl rfl (by omega)).drew.drew
  . exact zq308
theorem x_count (mb rb X) (hX : XOk X) (r : Bool) (h : Nat) (hh : h < 4294967296) (w) (hw : Hid (XAt w mb rb X)) :
 CX 38 #[.pointer (some ⟨mb, 0, none⟩), .bool r, .int .i64 h] (.tuple #[]) [mb] mb rb (cntX X r h) w := by
 unfold cntX
 cases h1 : bitN h 0 <;> cases r <;> cases h2 : bitN h 2
 . exact x_count_100 mb rb X hX h hh h1 w hw
 . exact x_count_100 mb rb X hX h hh h1 w hw
 . exact x_count_111 mb rb X hX h hh h1 h2 w hw
 . exact x_count_110 mb rb X hX h hh h1 h2 w hw
 . exact x_count_000 mb rb X hX h hh h1 w hw
 . exact x_count_000 mb rb X hX h hh h1 w hw
 . exact x_count_011 mb rb X hX h hh h1 h2 w hw
 . exact x_count_010 mb rb X hX h hh h1 h2 w hw
theorem x_Tick_no (mb : Nat) (n : Int) (h : n < 0 \/ 4294967295 < n) (w : World) :
 CS 68 #[.pointer (some ⟨mb, 0, none⟩), .int .i64 n] (.int .i64 2) w := by
 rcases h with h | h
 . have q : decide (n < 0) = true := by simp [h]
   exact zq309
 . have q : decide (n < 0) = false := by simp; omega
   have q2 : decide (n > 4294967295) = true := by simp; omega
   have q3 : decide (4294967295 < n) = true := by simp; omega
   exact zq309
theorem tick_eq (X : XS) (n : Nat) : { X with b := tickD X.b n } = { X with b := { X.b with time := incL X.b.time n, timeh := incH X.b.time X.b.timeh n } } := rfl
theorem x_Tick (mb rb X) (hX : XOk X) (n : Nat) (hn : n <= 4294967295) (w) (hw : Hid (XAt w mb rb X)) :
 CX 68 #[.pointer (some ⟨mb, 0, none⟩), .int .i64 n] (.int .i64 0) [mb] mb rb ({ X with b := tickD X.b n }) w := by
 have c62 := hw.out.c62
 have c63 := hw.out.c63
 have hfr := hw.out.fro
 have q : decide ((n : Int) < 0) = false := by simp
 have q2 : decide ((n : Int) > 4294967295) = false := by simp; omega
 have q3 : decide (4294967295 < (n : Int)) = false := by simp; omega
 have q3' : decide (4294967295 < n) = false := by simp; omega
 have P1 := hide1 (x_plusI X.b.time X.b.timeh n hX.b.time hX.b.timeh (by omega))
 rw [tick_eq]
 obtain ⟨u1, hu1⟩ := zn1 (incL X.b.time n)
 obtain ⟨v1, hv1⟩ := zn1 (incH X.b.time X.b.timeh n)
 simp only [<- hu1, <- hv1] at P1 |-
 clear hu1 hv1 hX hn
 go_enter func68, ntmps68
 go_wp2_with (go_at_call 85; refine (P1.out _).mono ?_; rintro o w1 ⟨rfl, hk1⟩; have hx1 := hide1 (hw.out.kept hk1); have d62 := hx1.out.c62; have d63 := hx1.out.c63; have dfr := hx1.out.fro)
 all_goals
  go_ret
  refine ⟨rfl, ?_, ?_⟩
  . exact (hx1.out.set (X' := { X with b := { X.b with time := u1 } }) 62 _ rfl rfl (by omega)).set (X' := { X with b := { X.b with time := u1, timeh := v1 } }) 63 _ rfl rfl (by omega)
  . exact zq310
theorem x_Drain (mb rb X w) (hw : Hid (XAt w mb rb X)) :
 CX 70 #[.pointer (some ⟨mb, 0, none⟩)] (.string X.b.tx) [mb] mb rb ({ X with b := { X.b with tx := ⟨#[]⟩ } }) w := by
 have c70 := hw.out.c70
 have hfr := hw.out.fro
 go_enter func70, ntmps70
 go_wp2_with fail
 go_ret
 refine ⟨rfl, ?_, ?_⟩
 . exact hw.out.set 70 _ rfl rfl (by omega)
 . exact zq304
def urwB (X : XS) (p n : Nat) : Bool := X.resd && decide (0 < n) && decide ((X.resv : Int) - 2147483648 < p + n) && decide ((p : Int) < (X.resv : Int) - 2147483648 + 4)
def urwX (X : XS) (p n : Nat) : XS := if urwB X p n = true then unresX X else X
theorem x_unreserveWritten (mb rb X) (hX : XOk X) (p n : Nat) (hp : p <= 65536) (hn : n <= 65536) (w) (hw : Hid (XAt w mb rb X)) :
 CX 36 #[.pointer (some ⟨mb, 0, none⟩), .int .i64 p, .int .i64 n] (.tuple #[]) [mb] mb rb (urwX X p n) w := by
 have c36 := hw.out.c36
 have c37 := hw.out.c37
 have hfr := hw.out.fro
 have hr := hX.resv
 have UR := hide1 (fun W h => x_unreserve mb rb X W h)
 unfold urwX urwB
 obtain ⟨r, hre⟩ := zn1 ((X.resv : Int) - 2147483648 : Int)
 rw [<- hre]
 have hr1 : -2147483648 <= r := by omega
 have hr2 : r < 17184063488 := by omega
 have e1 : wrap64 ((X.resv : Int) - 2147483648) = r := by rw [<- iwrap, hre]; exact wrap_in _ (by omega)
 have e1' : IntKind.i64.wrap ((X.resv : Int) - 2147483648) = r := by rw [iwrap]; exact e1
 have e2 : IntKind.i64.wrap ((p : Int) + n) = p + n := zq115
 have e3 : IntKind.i64.wrap (r + 4) = r + 4 := zq115
 obtain ⟨b1, hb1⟩ := zn1 (X.resd)
 rw [<- hb1] at c36 |-
 obtain ⟨b2, hb2⟩ := zn1 (decide (0 < n))
 obtain ⟨b3, hb3⟩ := zn1 (decide (r < (p : Int) + n))
 obtain ⟨b4, hb4⟩ := zn1 (decide ((p : Int) < r + 4))
 rw [<- hb2, <- hb3, <- hb4]
 have q2 : decide ((n : Int) > 0) = b2 := by rw [hb2]; simp
 have q2' : decide ((0 : Int) < n) = b2 := by rw [hb2]; simp
 have q2n := hb2.symm
 have q3 := hb3.symm
 have q4 := hb4.symm
 clear hb1 hb2 hb3 hb4 hX hre hr hr1 hr2
 cases b1 <;> cases b2 <;> cases b3 <;> cases b4
 all_goals
  go_enter func36, ntmps36
  go_wp2_with (go_at_call 77; refine (UR.out _ hw).mono ?_; rintro o w1 ⟨rfl, hx1, hk1⟩)
  go_end0
  first
  | exact ⟨rfl, hx1, hk1⟩
  | exact ⟨rfl, hw.out, Kept.refl _ _⟩
def mayT (t0 t1 t2 t3 t4 t5 v1 t6 t7 v2 : Bool) : Bool := if t0 = false then false else if t1 = true then false else if (t2 && t3) = true then false else if (t4 && t5) = true then v1 else if (t6 && t7) = true then v2 else true
def mayB (X : XS) (i : NI) : Bool := mayT (rcsD X i.im).2 (decide (X.mode < i.im.toNat / 256 % 4)) (decide (i.im.toNat / 1024 % 4 = 3)) (wrcB i) (decide (i.im.toNat = 384)) (decide (X.mode = 1)) (!bitN X.c.mstatus 20) (decide (3072 <= i.im.toNat)) (decide (i.im.toNat <= 3327)) (mrcB X i.im.toNat)
theorem and3 (a : Nat) : a &&& 3 = a % 4 := Nat.and_two_pow_sub_one_eq_mod a 2
theorem rcs_in (X : XS) (n : Int) (h : (rcsD X n).2 = true) : 0 <= n /\ n <= 3860 := by
 unfold rcsD at h
 split at h
 . omega
 . split at h
   . omega
   . split at h
     . omega
     . have := of_decide_eq_true h; omega
theorem x_mayAccess_no (mb rb X) (hX : XOk X) (i : NI) (h0 : (rcsD X i.im).2 = false) (w) (hw : Hid (XAt w mb rb X)) :
 CK 202 #[.pointer (some ⟨mb, 0, none⟩), niV i] (.bool false) w := by
 have hlt := hw.out.lt
 have hrlt := hw.out.rlt
 have hlt' : ¬ mb = w.heap.size := by omega
 have c34 := hw.out.c34
 have hwa : Hid (XAt (w.alloc (niC i)) mb rb X) := zq10
 have RC := hide1 (fun W h => x_readCsr mb rb X hX i.im W h)
 have WC := hide1 (fun W => x_writesCsr i W)
 obtain ⟨⟨cv, cb⟩, hR⟩ : ∃ r, r = rcsD X i.im := ⟨_, rfl⟩
 simp only [<- hR] at RC h0
 try dsimp only at RC h0
 subst h0
 unfold niC at hwa WC
 unfold niV at WC |-
 obtain ⟨op, rd, rs1, rs2, im, ln⟩ := i
 dsimp only at *
 clear hX hR
 go_enter func202, ntmps202
 go_wp2_with (go_at_call 217; refine (RC.out _ hwa).mono ?_; rintro o w1 ⟨rfl, hk1⟩)
 go_ret
 exact ⟨rfl, Kept.trans ((Kept.refl _ _).alloc _) hk1⟩
theorem x_mayAccess_yes (mb rb X) (hX : XOk X) (i : NI) (h0 : (rcsD X i.im).2 = true) (w) (hw : Hid (XAt w mb rb X)) :
 CK 202 #[.pointer (some ⟨mb, 0, none⟩), niV i] (.bool (mayB X i)) w := by
 have hlt := hw.out.lt
 have hrlt := hw.out.rlt
 have hlt' : ¬ mb = w.heap.size := by omega
 have c34 := hw.out.c34
 have hwa : Hid (XAt (w.alloc (niC i)) mb rb X) := zq10
 have RC := hide1 (fun W h => x_readCsr mb rb X hX i.im W h)
 have WC := hide1 (fun W => x_writesCsr i W)
 obtain ⟨hi0, hi1⟩ := rcs_in X i.im h0
 unfold mayB
 obtain ⟨⟨cv, cb⟩, hR⟩ : ∃ r, r = rcsD X i.im := ⟨_, rfl⟩
 simp only [<- hR] at RC h0 |-
 try dsimp only at RC h0 |-
 subst h0
 obtain ⟨t3, ht3⟩ := zn1 (wrcB i)
 simp only [<- ht3] at WC |-
 unfold niC at hwa WC
 unfold niV at WC |-
 obtain ⟨op, rd, rs1, rs2, im, ln⟩ := i
 dsimp only at *
 obtain ⟨k, rfl⟩ : ∃ k : Nat, im = k := ⟨im.toNat, by omega⟩
 have ek : (k : Int).toNat = k := by omega
 rw [ek]
 have MR := hide1 (fun W h => x_mayReadCounter mb rb X hX k W h)
 have hs := hX.mstatus
 have c38 := hw.out.c38
 have p1 : bits .and .i64 ((k : Int) / 256) 3 = ((k / 256 % 4 : Nat) : Int) := by
  have := b_and (k / 256) 3 (by omega) (by omega)
  rw [and3] at this
  rw [<- this]; simp
 have p2 : bits .and .i64 ((k : Int) / 1024) 3 = ((k / 1024 % 4 : Nat) : Int) := by
  have := b_and (k / 1024) 3 (by omega) (by omega)
  rw [and3] at this
  rw [<- this]; simp
 have p3 : (bits .and .i64 (X.c.mstatus : Int) 1048576 == 0) = !bitN X.c.mstatus 20 := by
  rw [show (1048576 : Int) = ((1048576 : Nat) : Int) from rfl, b_and X.c.mstatus 1048576 (by omega) (by omega), eq0]; exact t_bit X.c.mstatus 20
 obtain ⟨v1, hv1⟩ := zn1 (!bitN X.c.mstatus 20)
 rw [<- hv1] at p3 |-
 obtain ⟨v2, hv2⟩ := zn1 (mrcB X k)
 simp only [<- hv2] at MR |-
 obtain ⟨m, hm⟩ := zn1 (X.mode)
 rw [<- hm] at c34 |-
 obtain ⟨u1, hu1⟩ := zn1 (k / 256 % 4)
 rw [<- hu1] at p1 |-
 obtain ⟨u2, hu2⟩ := zn1 (k / 1024 % 4)
 rw [<- hu2] at p2 |-
 obtain ⟨t1, ht1⟩ := zn1 (decide (m < u1))
 obtain ⟨t2, ht2⟩ := zn1 (decide (u2 = 3))
 obtain ⟨t4, ht4⟩ := zn1 (decide (k = 384))
 obtain ⟨t5, ht5⟩ := zn1 (decide (m = 1))
 obtain ⟨t6, ht6⟩ := zn1 (decide (3072 <= k))
 obtain ⟨t7, ht7⟩ := zn1 (decide (k <= 3327))
 rw [<- ht1, <- ht2, <- ht4, <- ht5, <- ht6, <- ht7]
 have q1 : decide ((u1 : Int) > (m : Int)) = t1 := by rw [ht1]; simp
 have q1a : decide ((m : Int) < (u1 : Int)) = t1 := by rw [ht1]; simp
 have q1b : decide (m < u1) = t1 := ht1.symm
 have q2 : ((u2 : Int) == 3) = t2 := by rw [ht2]; by_cases h : u2 = 3 <;> simp [h] <;> omega
 have q4 : ((k : Int) == 384) = t4 := by rw [ht4]; by_cases h : k = 384 <;> simp [h] <;> omega
 have q5 : ((m : Int) == 1) = t5 := by rw [ht5]; by_cases h : m = 1 <;> simp [h] <;> omega
 have q6 : decide ((k : Int) >= 3072) = t6 := by rw [ht6]; by_cases h : 3072 <= k <;> simp [h] <;> omega
 have q6a : decide (3072 <= (k : Int)) = t6 := by rw [ht6]; by_cases h : 3072 <= k <;> simp [h] <;> omega
 have q6b : decide (3072 <= k) = t6 := ht6.symm
 have q7 : decide ((k : Int) <= 3327) = t7 := by rw [ht7]; by_cases h : k <= 3327 <;> simp [h] <;> omega
 have q7a : decide (k <= 3327) = t7 := ht7.symm
 clear hX hR hv1 hv2 hm hu1 hu2 ht1 ht2 ht3 ht4 ht5 ht6 ht7 ek hi0 hi1 hs
 go_enter func202, ntmps202
 go_upto_region 4 with (go_at_call 217; refine (RC.out _ hwa).mono ?_; rintro o w1 ⟨rfl, hk1⟩)
 have hx1 := hide1 (hwa.out.kept hk1)
 have d38 := hx1.out.c38
 have hl1 := hx1.out.lt
 have hl2 : ¬ mb = w1.heap.size := by omega
 obtain ⟨ic0w1, ic1w1, ic2w1, ic3w1, ic4w1, ic5w1, ifw1, izw1, izw11, inw11, izw12, inw12, izw13, inw13, izw14, inw14⟩ : Zc6 w1 w.heap.size op rd rs1 rs2 (k : Nat) ln := zq166
 have HK : Hid (Kept [] w w1) := hide1 (Kept.trans ((Kept.refl _ _).alloc _) hk1)
 clear hk1
 cases t1
 rotate_left
 . exact zq311
 cases t2
 . exact zq312
 . cases t3
   rotate_left
   . exact zq311
   exact zq312
theorem x_mayAccess (mb rb X) (hX : XOk X) (i : NI) (w) (hw : Hid (XAt w mb rb X)) :
 CK 202 #[.pointer (some ⟨mb, 0, none⟩), niV i] (.bool (mayB X i)) w := by
 cases h0 : (rcsD X i.im).2
 . have e : mayB X i = false := by unfold mayB mayT; rw [if_pos h0]
   rw [e]; exact x_mayAccess_no mb rb X hX i h0 w hw
 . exact x_mayAccess_yes mb rb X hX i h0 w hw
theorem x_carry_ld (mb rb X) (hX : XOk X) (i : NI) (hi : NIOk i) (v : Nat) (hop : 11 <= i.op /\ i.op <= 15) (w) (hw : Hid (XAt w mb rb X)) :
 CX 133 #[.pointer (some ⟨mb, 0, none⟩), niV i, .int .i64 v] (excA (ldX X i).1.1 (ldX X i).1.2) [mb, rb] mb rb ((ldX X i).2) w := by
 have hlt := hw.out.lt
 have hrlt := hw.out.rlt
 have hlt' : ¬ mb = w.heap.size := by omega
 have hlt2 : ¬ mb = w.heap.size + 1 := by omega
 have c33 := hw.out.c33
 have c34 := hw.out.c34
 have hwa : Hid (XAt ((w.alloc (niC i)).alloc (.cells #[.int .i64 0, .int .i64 0] 118)) mb rb X) := zq22
 have HR := hide1 (fun W => x_hasResult i.op W)
 have IB := hide1 (fun W => x_isBranch i.op W)
 simp only [show xresD i.op = false by unfold xresD; simp; omega, show decide (5 <= i.op /\ i.op <= 10) = false by simp; omega] at HR IB
 unfold niC at hwa
 have LD := hide1 (fun W h => x_load mb rb X hX i hi W h)
 unfold niV at LD
 obtain ⟨⟨⟨c, t⟩, Y⟩, hY⟩ : ∃ r, r = ldX X i := ⟨_, rfl⟩
 simp only [<- hY] at LD |-
 try dsimp only at LD |-
 unfold excA at LD
 unfold niV excA
 obtain ⟨op, rd, rs1, rs2, im, ln⟩ := i
 dsimp only at *
 have qg11 : decide (op >= 11) = true := by simp; omega
 have qh11 : decide (11 <= op) = true := by simp; omega
 have qg16 : decide (op >= 16) = false := by simp; omega
 have qh16 : decide (16 <= op) = false := by simp; omega
 have qg50 : decide (op >= 50) = false := by simp; omega
 have qh50 : decide (50 <= op) = false := by simp; omega
 have qg61 : decide (op >= 61) = false := by simp; omega
 have qh61 : decide (61 <= op) = false := by simp; omega
 have qg67 : decide (op >= 67) = false := by simp; omega
 have qh67 : decide (67 <= op) = false := by simp; omega
 have ql15 : decide (op <= 15) = true := by simp; omega
 exact zq313
theorem x_carry_st (mb rb X) (hX : XOk X) (i : NI) (hi : NIOk i) (v : Nat) (hop : 16 <= i.op /\ i.op <= 18) (w) (hw : Hid (XAt w mb rb X)) :
 CX 133 #[.pointer (some ⟨mb, 0, none⟩), niV i, .int .i64 v] (excA (stX X i).1.1 (stX X i).1.2) [mb, rb] mb rb ((stX X i).2) w := by
 have hlt := hw.out.lt
 have hrlt := hw.out.rlt
 have hlt' : ¬ mb = w.heap.size := by omega
 have hlt2 : ¬ mb = w.heap.size + 1 := by omega
 have c33 := hw.out.c33
 have c34 := hw.out.c34
 have hwa : Hid (XAt ((w.alloc (niC i)).alloc (.cells #[.int .i64 0, .int .i64 0] 118)) mb rb X) := zq22
 have HR := hide1 (fun W => x_hasResult i.op W)
 have IB := hide1 (fun W => x_isBranch i.op W)
 simp only [show xresD i.op = false by unfold xresD; simp; omega, show decide (5 <= i.op /\ i.op <= 10) = false by simp; omega] at HR IB
 unfold niC at hwa
 have LD := hide1 (fun W h => x_store mb rb X hX i hi W h)
 unfold niV at LD
 obtain ⟨⟨⟨c, t⟩, Y⟩, hY⟩ : ∃ r, r = stX X i := ⟨_, rfl⟩
 simp only [<- hY] at LD |-
 try dsimp only at LD |-
 unfold excA at LD
 unfold niV excA
 obtain ⟨op, rd, rs1, rs2, im, ln⟩ := i
 dsimp only at *
 have qg11 : decide (op >= 11) = true := by simp; omega
 have qh11 : decide (11 <= op) = true := by simp; omega
 have qg16 : decide (op >= 16) = true := by simp; omega
 have qh16 : decide (16 <= op) = true := by simp; omega
 have qg50 : decide (op >= 50) = false := by simp; omega
 have qh50 : decide (50 <= op) = false := by simp; omega
 have qg61 : decide (op >= 61) = false := by simp; omega
 have qh61 : decide (61 <= op) = false := by simp; omega
 have qg67 : decide (op >= 67) = false := by simp; omega
 have qh67 : decide (67 <= op) = false := by simp; omega
 have ql15 : decide (op <= 15) = false := by simp; omega
 exact zq313
theorem x_carry_at (mb rb X) (hX : XOk X) (i : NI) (hi : NIOk i) (v : Nat) (hop : 50 <= i.op /\ i.op <= 60) (w) (hw : Hid (XAt w mb rb X)) :
 CX 133 #[.pointer (some ⟨mb, 0, none⟩), niV i, .int .i64 v] (excA (atX X i).1.1 (atX X i).1.2) [mb, rb] mb rb ((atX X i).2) w := by
 have hlt := hw.out.lt
 have hrlt := hw.out.rlt
 have hlt' : ¬ mb = w.heap.size := by omega
 have hlt2 : ¬ mb = w.heap.size + 1 := by omega
 have c33 := hw.out.c33
 have c34 := hw.out.c34
 have hwa : Hid (XAt ((w.alloc (niC i)).alloc (.cells #[.int .i64 0, .int .i64 0] 118)) mb rb X) := zq22
 have HR := hide1 (fun W => x_hasResult i.op W)
 have IB := hide1 (fun W => x_isBranch i.op W)
 simp only [show xresD i.op = false by unfold xresD; simp; omega, show decide (5 <= i.op /\ i.op <= 10) = false by simp; omega] at HR IB
 unfold niC at hwa
 have LD := hide1 (fun W h => x_atomic mb rb X hX i hi hop W h)
 unfold niV at LD
 obtain ⟨⟨⟨c, t⟩, Y⟩, hY⟩ : ∃ r, r = atX X i := ⟨_, rfl⟩
 simp only [<- hY] at LD |-
 try dsimp only at LD |-
 unfold excA at LD
 unfold niV excA
 obtain ⟨op, rd, rs1, rs2, im, ln⟩ := i
 dsimp only at *
 have qg11 : decide (op >= 11) = true := by simp; omega
 have qh11 : decide (11 <= op) = true := by simp; omega
 have qg16 : decide (op >= 16) = true := by simp; omega
 have qh16 : decide (16 <= op) = true := by simp; omega
 have qg50 : decide (op >= 50) = true := by simp; omega
 have qh50 : decide (50 <= op) = true := by simp; omega
 have qg61 : decide (op >= 61) = false := by simp; omega
 have qh61 : decide (61 <= op) = false := by simp; omega
 have qg67 : decide (op >= 67) = false := by simp; omega
 have qh67 : decide (67 <= op) = false := by simp; omega
 have ql15 : decide (op <= 15) = false := by simp; omega
 have ql18 : decide (op <= 18) = false := by simp; omega
 exact zq314
theorem x_carry_ec (mb rb X) (hX : XOk X) (i : NI) (hi : NIOk i) (v : Nat) (hop : i.op = 40) (w) (hw : Hid (XAt w mb rb X)) :
 CX 133 #[.pointer (some ⟨mb, 0, none⟩), niV i, .int .i64 v] (excA ((8 + X.mode : Nat) : Int) 0) [mb, rb] mb rb X w := by
 have hlt := hw.out.lt
 have hrlt := hw.out.rlt
 have hlt' : ¬ mb = w.heap.size := by omega
 have hlt2 : ¬ mb = w.heap.size + 1 := by omega
 have c33 := hw.out.c33
 have c34 := hw.out.c34
 have hwa : Hid (XAt ((w.alloc (niC i)).alloc (.cells #[.int .i64 0, .int .i64 0] 118)) mb rb X) := zq22
 have HR := hide1 (fun W => x_hasResult i.op W)
 have IB := hide1 (fun W => x_isBranch i.op W)
 simp only [show xresD i.op = false by unfold xresD; simp; omega, show decide (5 <= i.op /\ i.op <= 10) = false by simp; omega] at HR IB
 unfold niC at hwa
 unfold niV excA
 obtain ⟨op, rd, rs1, rs2, im, ln⟩ := i
 dsimp only at *
 subst hop
 have hmo := hX.mode
 have e8 : ((8 + X.mode : Nat) : Int) = 8 + (X.mode : Int) := by omega
 rw [e8]
 clear hX hi
 go_enter func133, ntmps133
 go_wp2_with (first | (go_at_call 195; refine (HR.out _).mono ?_; rintro o w5 ⟨rfl, rfl⟩) | (go_at_call 192; refine (IB.out _).mono ?_; rintro o w5 ⟨rfl, rfl⟩))
 refine bodyPost_ret (v := .agg #[.int .i64 (8 + (X.mode : Int)), .int .i64 0]) zq523 rfl ⟨rfl, ?_, ?_⟩
 . exact zq315
 . exact zq316
theorem x_carry_eb (mb rb X) (hX : XOk X) (i : NI) (hi : NIOk i) (v : Nat) (hop : i.op = 41) (w) (hw : Hid (XAt w mb rb X)) :
 CX 133 #[.pointer (some ⟨mb, 0, none⟩), niV i, .int .i64 v] (excA 3 X.pc) [mb, rb] mb rb X w := by
 have hlt := hw.out.lt
 have hrlt := hw.out.rlt
 have hlt' : ¬ mb = w.heap.size := by omega
 have hlt2 : ¬ mb = w.heap.size + 1 := by omega
 have c33 := hw.out.c33
 have c34 := hw.out.c34
 have hwa : Hid (XAt ((w.alloc (niC i)).alloc (.cells #[.int .i64 0, .int .i64 0] 118)) mb rb X) := zq22
 have HR := hide1 (fun W => x_hasResult i.op W)
 have IB := hide1 (fun W => x_isBranch i.op W)
 simp only [show xresD i.op = false by unfold xresD; simp; omega, show decide (5 <= i.op /\ i.op <= 10) = false by simp; omega] at HR IB
 unfold niC at hwa
 unfold niV excA
 obtain ⟨op, rd, rs1, rs2, im, ln⟩ := i
 dsimp only at *
 subst hop
 clear hX hi
 go_enter func133, ntmps133
 go_wp2_with (first | (go_at_call 195; refine (HR.out _).mono ?_; rintro o w5 ⟨rfl, rfl⟩) | (go_at_call 192; refine (IB.out _).mono ?_; rintro o w5 ⟨rfl, rfl⟩))
 refine bodyPost_ret (v := .agg #[.int .i64 3, .int .i64 X.pc]) zq523 rfl ⟨rfl, ?_, ?_⟩
 . exact zq315
 . exact zq316
theorem x_carry_br (mb rb X) (hX : XOk X) (i : NI) (hi : NIOk i) (v : Nat) (hop : 5 <= i.op /\ i.op <= 10) (w) (hw : Hid (XAt w mb rb X)) :
 CX 133 #[.pointer (some ⟨mb, 0, none⟩), niV i, .int .i64 v] (excA (-1) 0) [mb, rb] mb rb X w := by
 have hlt := hw.out.lt
 have hrlt := hw.out.rlt
 have hlt' : ¬ mb = w.heap.size := by omega
 have hlt2 : ¬ mb = w.heap.size + 1 := by omega
 have c33 := hw.out.c33
 have c34 := hw.out.c34
 have hwa : Hid (XAt ((w.alloc (niC i)).alloc (.cells #[.int .i64 0, .int .i64 0] 118)) mb rb X) := zq22
 have HR := hide1 (fun W => x_hasResult i.op W)
 have IB := hide1 (fun W => x_isBranch i.op W)
 simp only [show xresD i.op = false by unfold xresD; simp; omega, show decide (5 <= i.op /\ i.op <= 10) = true by simp; omega] at HR IB
 unfold niC at hwa
 unfold niV excA
 obtain ⟨op, rd, rs1, rs2, im, ln⟩ := i
 dsimp only at *
 have qg11 : decide (op >= 11) = false := by simp; omega
 have qh11 : decide (11 <= op) = false := by simp; omega
 have qg16 : decide (op >= 16) = false := by simp; omega
 have qh16 : decide (16 <= op) = false := by simp; omega
 have qg50 : decide (op >= 50) = false := by simp; omega
 have qh50 : decide (50 <= op) = false := by simp; omega
 have qg61 : decide (op >= 61) = false := by simp; omega
 have qh61 : decide (61 <= op) = false := by simp; omega
 have qg67 : decide (op >= 67) = false := by simp; omega
 have qh67 : decide (67 <= op) = false := by simp; omega
 have ql15 : decide (op <= 15) = true := by simp; omega
 have ql18 : decide (op <= 18) = true := by simp; omega
 have ql60 : decide (op <= 60) = true := by simp; omega
 have ql66 : decide (op <= 66) = true := by simp; omega
 have ql70 : decide (op <= 70) = true := by simp; omega
 have qe38 : (op == 38) = false := by simp; omega
 have qe39 : (op == 39) = false := by simp; omega
 have qe40 : (op == 40) = false := by simp; omega
 have qe41 : (op == 41) = false := by simp; omega
 exact zq317
theorem x_carry_f1 (mb rb X) (hX : XOk X) (i : NI) (hi : NIOk i) (v : Nat) (hop : i.op = 38) (w) (hw : Hid (XAt w mb rb X)) :
 CX 133 #[.pointer (some ⟨mb, 0, none⟩), niV i, .int .i64 v] (excA (-1) 0) [mb, rb] mb rb X w := zq318
theorem x_carry_f2 (mb rb X) (hX : XOk X) (i : NI) (hi : NIOk i) (v : Nat) (hop : i.op = 39) (w) (hw : Hid (XAt w mb rb X)) :
 CX 133 #[.pointer (some ⟨mb, 0, none⟩), niV i, .int .i64 v] (excA (-1) 0) [mb, rb] mb rb X w := zq318
theorem x_carry_n0 (mb rb X) (hX : XOk X) (i : NI) (hi : NIOk i) (v : Nat) (hop : i.op <= 0) (w) (hw : Hid (XAt w mb rb X)) :
 CX 133 #[.pointer (some ⟨mb, 0, none⟩), niV i, .int .i64 v] (excA 2 v) [mb, rb] mb rb X w := by
 have hlt := hw.out.lt
 have hrlt := hw.out.rlt
 have hlt' : ¬ mb = w.heap.size := by omega
 have hlt2 : ¬ mb = w.heap.size + 1 := by omega
 have c33 := hw.out.c33
 have c34 := hw.out.c34
 have hwa : Hid (XAt ((w.alloc (niC i)).alloc (.cells #[.int .i64 0, .int .i64 0] 118)) mb rb X) := zq22
 have HR := hide1 (fun W => x_hasResult i.op W)
 have IB := hide1 (fun W => x_isBranch i.op W)
 simp only [show xresD i.op = false by unfold xresD; simp; omega, show decide (5 <= i.op /\ i.op <= 10) = false by simp; omega] at HR IB
 unfold niC at hwa
 unfold niV excA
 obtain ⟨op, rd, rs1, rs2, im, ln⟩ := i
 dsimp only at *
 have qg11 : decide (op >= 11) = false := by simp; omega
 have qh11 : decide (11 <= op) = false := by simp; omega
 have qg16 : decide (op >= 16) = false := by simp; omega
 have qh16 : decide (16 <= op) = false := by simp; omega
 have qg50 : decide (op >= 50) = false := by simp; omega
 have qh50 : decide (50 <= op) = false := by simp; omega
 have qg61 : decide (op >= 61) = false := by simp; omega
 have qh61 : decide (61 <= op) = false := by simp; omega
 have qg67 : decide (op >= 67) = false := by simp; omega
 have qh67 : decide (67 <= op) = false := by simp; omega
 have ql15 : decide (op <= 15) = true := by simp; omega
 have ql18 : decide (op <= 18) = true := by simp; omega
 have ql60 : decide (op <= 60) = true := by simp; omega
 have ql66 : decide (op <= 66) = true := by simp; omega
 have ql70 : decide (op <= 70) = true := by simp; omega
 exact zq319
theorem x_carry_n1 (mb rb X) (hX : XOk X) (i : NI) (hi : NIOk i) (v : Nat) (hop : 71 <= i.op) (w) (hw : Hid (XAt w mb rb X)) :
 CX 133 #[.pointer (some ⟨mb, 0, none⟩), niV i, .int .i64 v] (excA 2 v) [mb, rb] mb rb X w := by
 have hlt := hw.out.lt
 have hrlt := hw.out.rlt
 have hlt' : ¬ mb = w.heap.size := by omega
 have hlt2 : ¬ mb = w.heap.size + 1 := by omega
 have c33 := hw.out.c33
 have c34 := hw.out.c34
 have hwa : Hid (XAt ((w.alloc (niC i)).alloc (.cells #[.int .i64 0, .int .i64 0] 118)) mb rb X) := zq22
 have HR := hide1 (fun W => x_hasResult i.op W)
 have IB := hide1 (fun W => x_isBranch i.op W)
 simp only [show xresD i.op = false by unfold xresD; simp; omega, show decide (5 <= i.op /\ i.op <= 10) = false by simp; omega] at HR IB
 unfold niC at hwa
 unfold niV excA
 obtain ⟨op, rd, rs1, rs2, im, ln⟩ := i
 dsimp only at *
 have qg11 : decide (op >= 11) = true := by simp; omega
 have qh11 : decide (11 <= op) = true := by simp; omega
 have qg16 : decide (op >= 16) = true := by simp; omega
 have qh16 : decide (16 <= op) = true := by simp; omega
 have qg50 : decide (op >= 50) = true := by simp; omega
 have qh50 : decide (50 <= op) = true := by simp; omega
 have qg61 : decide (op >= 61) = true := by simp; omega
 have qh61 : decide (61 <= op) = true := by simp; omega
 have qg67 : decide (op >= 67) = true := by simp; omega
 have qh67 : decide (67 <= op) = true := by simp; omega
 have ql15 : decide (op <= 15) = false := by simp; omega
 have ql18 : decide (op <= 18) = false := by simp; omega
 have ql60 : decide (op <= 60) = false := by simp; omega
 have ql66 : decide (op <= 66) = false := by simp; omega
 have ql70 : decide (op <= 70) = false := by simp; omega
 exact zq319
theorem x_carry_rs (mb rb X) (hX : XOk X) (i : NI) (hi : NIOk i) (v : Nat) (hr : xresD i.op = true) (w) (hw : Hid (XAt w mb rb X)) :
 CX 133 #[.pointer (some ⟨mb, 0, none⟩), niV i, .int .i64 v] (excA (-1) 0) [mb, rb] mb rb (setXR X i.rd (rsvD X i)) w := by
 have hlt := hw.out.lt
 have hrlt := hw.out.rlt
 have hlt' : ¬ mb = w.heap.size := by omega
 have hlt2 : ¬ mb = w.heap.size + 1 := by omega
 have c33 := hw.out.c33
 have c34 := hw.out.c34
 have hwa : Hid (XAt ((w.alloc (niC i)).alloc (.cells #[.int .i64 0, .int .i64 0] 118)) mb rb X) := zq22
 have HR := hide1 (fun W => x_hasResult i.op W)
 have IB := hide1 (fun W => x_isBranch i.op W)
 simp only [hr] at HR
 unfold niC at hwa
 have RS := hide1 (fun W h => x_result mb rb X hX i hi hr W h)
 have SR := hide1 (fun W h => x_setRegister mb rb X hX.x i.rd (rsvD X i) hi.rd W h)
 skip
 unfold niV at RS
 try unfold niV at SR
 obtain ⟨Y, hY⟩ := zn1 ((setXR X i.rd (rsvD X i)))
 simp only [<- hY] at SR |-
 obtain ⟨rv, hrv⟩ := zn1 (rsvD X i)
 simp only [<- hrv] at RS SR
 unfold niV excA
 obtain ⟨op, rd, rs1, rs2, im, ln⟩ := i
 dsimp only at *
 clear hX hi hY hw hrv hr IB
 exact zq320
theorem x_carry_cs (mb rb X) (hX : XOk X) (i : NI) (hi : NIOk i) (v : Nat) (hop : 61 <= i.op /\ i.op <= 66) (hm : mayB X i = true) (w) (hw : Hid (XAt w mb rb X)) :
 CX 133 #[.pointer (some ⟨mb, 0, none⟩), niV i, .int .i64 v] (excA (-1) 0) [mb, rb] mb rb (ccrX X i) w := by
 have hlt := hw.out.lt
 have hrlt := hw.out.rlt
 have hlt' : ¬ mb = w.heap.size := by omega
 have hlt2 : ¬ mb = w.heap.size + 1 := by omega
 have c33 := hw.out.c33
 have c34 := hw.out.c34
 have hwa : Hid (XAt ((w.alloc (niC i)).alloc (.cells #[.int .i64 0, .int .i64 0] 118)) mb rb X) := zq22
 have HR := hide1 (fun W => x_hasResult i.op W)
 have IB := hide1 (fun W => x_isBranch i.op W)
 simp only [show xresD i.op = false by unfold xresD; simp; omega, show decide (5 <= i.op /\ i.op <= 10) = false by simp; omega] at HR IB
 unfold niC at hwa
 have RS := hide1 (fun W h => x_mayAccess mb rb X hX i W h)
 have SR := hide1 (fun W h => x_changeCsr mb rb X hX i hi W h)
 simp only [hm] at RS
 unfold niV at RS
 try unfold niV at SR
 obtain ⟨Y, hY⟩ := zn1 ((ccrX X i))
 simp only [<- hY] at SR |-
 unfold niV excA
 obtain ⟨op, rd, rs1, rs2, im, ln⟩ := i
 dsimp only at *
 have qg11 : decide (op >= 11) = true := by simp; omega
 have qh11 : decide (11 <= op) = true := by simp; omega
 have qg16 : decide (op >= 16) = true := by simp; omega
 have qh16 : decide (16 <= op) = true := by simp; omega
 have qg50 : decide (op >= 50) = true := by simp; omega
 have qh50 : decide (50 <= op) = true := by simp; omega
 have qg61 : decide (op >= 61) = true := by simp; omega
 have qh61 : decide (61 <= op) = true := by simp; omega
 have qg67 : decide (op >= 67) = false := by simp; omega
 have qh67 : decide (67 <= op) = false := by simp; omega
 have ql15 : decide (op <= 15) = false := by simp; omega
 have ql18 : decide (op <= 18) = false := by simp; omega
 have ql60 : decide (op <= 60) = false := by simp; omega
 have ql66 : decide (op <= 66) = true := by simp; omega
 exact zq321
theorem x_carry_pv (mb rb X) (hX : XOk X) (i : NI) (hi : NIOk i) (v : Nat) (hop : 67 <= i.op /\ i.op <= 70) (hm : mdoB X i.op = true) (w) (hw : Hid (XAt w mb rb X)) :
 CX 133 #[.pointer (some ⟨mb, 0, none⟩), niV i, .int .i64 v] (excA (-1) 0) [mb, rb] mb rb (prvX X i.op) w := by
 have hlt := hw.out.lt
 have hrlt := hw.out.rlt
 have hlt' : ¬ mb = w.heap.size := by omega
 have hlt2 : ¬ mb = w.heap.size + 1 := by omega
 have c33 := hw.out.c33
 have c34 := hw.out.c34
 have hwa : Hid (XAt ((w.alloc (niC i)).alloc (.cells #[.int .i64 0, .int .i64 0] 118)) mb rb X) := zq22
 have HR := hide1 (fun W => x_hasResult i.op W)
 have IB := hide1 (fun W => x_isBranch i.op W)
 simp only [show xresD i.op = false by unfold xresD; simp; omega, show decide (5 <= i.op /\ i.op <= 10) = false by simp; omega] at HR IB
 unfold niC at hwa
 have RS := hide1 (fun W h => x_mayDo mb rb X hX i.op W h)
 have SR := hide1 (fun W h => x_privileged mb rb X hX i.op W h)
 simp only [hm] at RS
 try unfold niV at RS
 try unfold niV at SR
 obtain ⟨Y, hY⟩ := zn1 ((prvX X i.op))
 simp only [<- hY] at SR |-
 unfold niV excA
 obtain ⟨op, rd, rs1, rs2, im, ln⟩ := i
 dsimp only at *
 have qg11 : decide (op >= 11) = true := by simp; omega
 have qh11 : decide (11 <= op) = true := by simp; omega
 have qg16 : decide (op >= 16) = true := by simp; omega
 have qh16 : decide (16 <= op) = true := by simp; omega
 have qg50 : decide (op >= 50) = true := by simp; omega
 have qh50 : decide (50 <= op) = true := by simp; omega
 have qg61 : decide (op >= 61) = true := by simp; omega
 have qh61 : decide (61 <= op) = true := by simp; omega
 have qg67 : decide (op >= 67) = true := by simp; omega
 have qh67 : decide (67 <= op) = true := by simp; omega
 have ql15 : decide (op <= 15) = false := by simp; omega
 have ql18 : decide (op <= 18) = false := by simp; omega
 have ql60 : decide (op <= 60) = false := by simp; omega
 have ql66 : decide (op <= 66) = false := by simp; omega
 exact zq321
theorem x_carry_cn (mb rb X) (hX : XOk X) (i : NI) (hi : NIOk i) (v : Nat) (hop : 61 <= i.op /\ i.op <= 66) (hm : mayB X i = false) (w) (hw : Hid (XAt w mb rb X)) :
 CX 133 #[.pointer (some ⟨mb, 0, none⟩), niV i, .int .i64 v] (excA 2 v) [mb, rb] mb rb X w := by
 have hlt := hw.out.lt
 have hrlt := hw.out.rlt
 have hlt' : ¬ mb = w.heap.size := by omega
 have hlt2 : ¬ mb = w.heap.size + 1 := by omega
 have c33 := hw.out.c33
 have c34 := hw.out.c34
 have hwa : Hid (XAt ((w.alloc (niC i)).alloc (.cells #[.int .i64 0, .int .i64 0] 118)) mb rb X) := zq22
 have HR := hide1 (fun W => x_hasResult i.op W)
 have IB := hide1 (fun W => x_isBranch i.op W)
 simp only [show xresD i.op = false by unfold xresD; simp; omega, show decide (5 <= i.op /\ i.op <= 10) = false by simp; omega] at HR IB
 unfold niC at hwa
 have RS := hide1 (fun W h => x_mayAccess mb rb X hX i W h)
 simp only [hm] at RS
 try unfold niV at RS
 unfold niV excA
 obtain ⟨op, rd, rs1, rs2, im, ln⟩ := i
 dsimp only at *
 have qg11 : decide (op >= 11) = true := by simp; omega
 have qh11 : decide (11 <= op) = true := by simp; omega
 have qg16 : decide (op >= 16) = true := by simp; omega
 have qh16 : decide (16 <= op) = true := by simp; omega
 have qg50 : decide (op >= 50) = true := by simp; omega
 have qh50 : decide (50 <= op) = true := by simp; omega
 have qg61 : decide (op >= 61) = true := by simp; omega
 have qh61 : decide (61 <= op) = true := by simp; omega
 have qg67 : decide (op >= 67) = false := by simp; omega
 have qh67 : decide (67 <= op) = false := by simp; omega
 have ql15 : decide (op <= 15) = false := by simp; omega
 have ql18 : decide (op <= 18) = false := by simp; omega
 have ql60 : decide (op <= 60) = false := by simp; omega
 have ql66 : decide (op <= 66) = true := by simp; omega
 exact zq322
theorem x_carry_pn (mb rb X) (hX : XOk X) (i : NI) (hi : NIOk i) (v : Nat) (hop : 67 <= i.op /\ i.op <= 70) (hm : mdoB X i.op = false) (w) (hw : Hid (XAt w mb rb X)) :
 CX 133 #[.pointer (some ⟨mb, 0, none⟩), niV i, .int .i64 v] (excA 2 v) [mb, rb] mb rb X w := by
 have hlt := hw.out.lt
 have hrlt := hw.out.rlt
 have hlt' : ¬ mb = w.heap.size := by omega
 have hlt2 : ¬ mb = w.heap.size + 1 := by omega
 have c33 := hw.out.c33
 have c34 := hw.out.c34
 have hwa : Hid (XAt ((w.alloc (niC i)).alloc (.cells #[.int .i64 0, .int .i64 0] 118)) mb rb X) := zq22
 have HR := hide1 (fun W => x_hasResult i.op W)
 have IB := hide1 (fun W => x_isBranch i.op W)
 simp only [show xresD i.op = false by unfold xresD; simp; omega, show decide (5 <= i.op /\ i.op <= 10) = false by simp; omega] at HR IB
 unfold niC at hwa
 have RS := hide1 (fun W h => x_mayDo mb rb X hX i.op W h)
 simp only [hm] at RS
 try unfold niV at RS
 unfold niV excA
 obtain ⟨op, rd, rs1, rs2, im, ln⟩ := i
 dsimp only at *
 have qg11 : decide (op >= 11) = true := by simp; omega
 have qh11 : decide (11 <= op) = true := by simp; omega
 have qg16 : decide (op >= 16) = true := by simp; omega
 have qh16 : decide (16 <= op) = true := by simp; omega
 have qg50 : decide (op >= 50) = true := by simp; omega
 have qh50 : decide (50 <= op) = true := by simp; omega
 have qg61 : decide (op >= 61) = true := by simp; omega
 have qh61 : decide (61 <= op) = true := by simp; omega
 have qg67 : decide (op >= 67) = true := by simp; omega
 have qh67 : decide (67 <= op) = true := by simp; omega
 have ql15 : decide (op <= 15) = false := by simp; omega
 have ql18 : decide (op <= 18) = false := by simp; omega
 have ql60 : decide (op <= 60) = false := by simp; omega
 have ql66 : decide (op <= 66) = false := by simp; omega
 exact zq322
end
def croX (X : XS) (i : NI) (v : Nat) : (Int × Nat) × XS :=
 if xresD i.op = true then ((-1, 0), setXR X i.rd (rsvD X i))
 else if (5 <= i.op /\ i.op <= 10) \/ i.op = 38 \/ i.op = 39 then ((-1, 0), X)
 else if 11 <= i.op /\ i.op <= 15 then ldX X i
 else if 16 <= i.op /\ i.op <= 18 then stX X i
 else if 50 <= i.op /\ i.op <= 60 then atX X i
 else if i.op = 40 then (((8 + X.mode : Nat), 0), X)
 else if i.op = 41 then ((3, X.pc), X)
 else if (61 <= i.op /\ i.op <= 66) /\ mayB X i = true then ((-1, 0), ccrX X i)
 else if (67 <= i.op /\ i.op <= 70) /\ mdoB X i.op = true then ((-1, 0), prvX X i.op)
 else ((2, v), X)
theorem x_carryOut (mb rb X) (hX : XOk X) (i : NI) (hi : NIOk i) (v : Nat) (w) (hw : Hid (XAt w mb rb X)) :
 CX 133 #[.pointer (some ⟨mb, 0, none⟩), niV i, .int .i64 v] (excA (croX X i v).1.1 (croX X i v).1.2) [mb, rb] mb rb ((croX X i v).2) w := by
 unfold croX
 by_cases h1 : xresD i.op = true
 . rw [if_pos h1]; exact x_carry_rs mb rb X hX i hi v h1 w hw
 rw [if_neg h1]
 by_cases h2 : (5 <= i.op /\ i.op <= 10) \/ i.op = 38 \/ i.op = 39
 . rw [if_pos h2]
   rcases h2 with h | h | h
   . exact x_carry_br mb rb X hX i hi v h w hw
   . exact x_carry_f1 mb rb X hX i hi v h w hw
   . exact x_carry_f2 mb rb X hX i hi v h w hw
 rw [if_neg h2]
 by_cases h3 : 11 <= i.op /\ i.op <= 15
 . rw [if_pos h3]; exact x_carry_ld mb rb X hX i hi v h3 w hw
 rw [if_neg h3]
 by_cases h4 : 16 <= i.op /\ i.op <= 18
 . rw [if_pos h4]; exact x_carry_st mb rb X hX i hi v h4 w hw
 rw [if_neg h4]
 by_cases h5 : 50 <= i.op /\ i.op <= 60
 . rw [if_pos h5]; exact x_carry_at mb rb X hX i hi v h5 w hw
 rw [if_neg h5]
 by_cases h6 : i.op = 40
 . rw [if_pos h6]; exact x_carry_ec mb rb X hX i hi v h6 w hw
 rw [if_neg h6]
 by_cases h7 : i.op = 41
 . rw [if_pos h7]; exact x_carry_eb mb rb X hX i hi v h7 w hw
 rw [if_neg h7]
 by_cases h8 : 61 <= i.op /\ i.op <= 66
 . cases hm : mayB X i
   . rw [if_neg (by simp), if_neg (by omega)]; exact x_carry_cn mb rb X hX i hi v h8 hm w hw
   . rw [if_pos ⟨h8, rfl⟩]; exact x_carry_cs mb rb X hX i hi v h8 hm w hw
 rw [if_neg (fun h => h8 h.1)]
 by_cases h9 : 67 <= i.op /\ i.op <= 70
 . cases hm : mdoB X i.op
   . rw [if_neg (by simp)]; exact x_carry_pn mb rb X hX i hi v h9 hm w hw
   . rw [if_pos ⟨h9, rfl⟩]; exact x_carry_pv mb rb X hX i hi v h9 hm w hw
 rw [if_neg (fun h => h9 h.1)]
 by_cases ha : i.op <= 0
 . exact x_carry_n0 mb rb X hX i hi v ha w hw
 . refine x_carry_n1 mb rb X hX i hi v ?_ w hw
   have h1' : ¬ ((1 <= i.op /\ i.op <= 4) \/ (19 <= i.op /\ i.op <= 37) \/ (42 <= i.op /\ i.op <= 49)) := fun h => h1 (by unfold xresD; exact decide_eq_true h)
   omega
section
attribute [local go_sem ↓] Go.wp_at_zero Go.wp_at_succ
theorem x_Flush (mb : Nat) (w : World) :
 CS 61 #[.pointer (some ⟨mb, 0, none⟩)] (.tuple #[]) w := by
 go_enter func61, ntmps61
 exact zq295
theorem x_Reg_no (mb rb : Nat) (X : XS) (i : Int) (h : i < 0 \/ 32 <= i) (w) (hw : Hid (XAt w mb rb X)) :
 CS 25 #[.pointer (some ⟨mb, 0, none⟩), .int .i64 i] (.tuple #[.int .i64 0, .int .i64 2]) w := by
 rcases h with h | h
 . have q : decide (i < 0) = true := by simp [h]
   exact zq323
 . have q : decide (i < 0) = false := by simp; omega
   have q2 : decide (i >= 32) = true := by simp; omega
   have q3 : decide (32 <= i) = true := by simp; omega
   exact zq323
theorem x_Reg (mb rb : Nat) (X : XS) (i : Nat) (hi : i < 32) (w) (hw : Hid (XAt w mb rb X)) :
 CS 25 #[.pointer (some ⟨mb, 0, none⟩), .int .i64 i] (.tuple #[.int .i64 (X.x.getD i 0 : Nat), .int .i64 0]) w := by
 have RG := hide1 (x_register mb rb X i hi w hw)
 have q : decide ((i : Int) < 0) = false := by simp
 have q2 : decide ((i : Int) >= 32) = false := by simp; omega
 have q3 : decide (32 <= (i : Int)) = false := by simp; omega
 have q3' : decide (32 <= i) = false := by simp; omega
 clear hi
 go_enter func25, ntmps25
 go_wp2_with (go_at_call 39; refine RG.out.mono ?_; rintro o w1 ⟨rfl, rfl⟩)
 exact zq324
def xcsrE (X : XS) (n : Int) : Nat × Int := if (rcsD X n).2 = true then ((rcsD X n).1, 0) else (0, 2)
theorem x_Csr (mb rb X) (hX : XOk X) (n : Int) (w) (hw : Hid (XAt w mb rb X)) :
 CK 144 #[.pointer (some ⟨mb, 0, none⟩), .int .i64 n] (.tuple #[.int .i64 ((xcsrE X n).1 : Nat), .int .i64 (xcsrE X n).2]) w := by
 have RC := hide1 (x_readCsr mb rb X hX n w hw)
 unfold xcsrE
 obtain ⟨⟨v, b⟩, hR⟩ : ∃ r, r = rcsD X n := ⟨_, rfl⟩
 simp only [<- hR] at RC |-
 clear hR hX
 cases b
 . exact zq325
 . exact zq325
end
def bndX (c : UInt8) (q : List UInt8) : Nat := if Pic.cnt (· == c) q = 0 then 0 else if Pic.cnt (· == c) q = 3 then 15 else 2 ^ Pic.cnt (· == c) q - 1
theorem reg_bndX (s : ByteArray) (c : UInt8) (W : Nat) : regOf s c W <= bndX c (Pic.rv s.data.toList s.size) := by
 have h := Pic.val_lt (· == c) (Pic.rv s.data.toList s.size) W
 unfold regOf bndX
 exact zq326
def rowNI (t : Int × ByteArray × Int) : Bool :=
 let q := Pic.rv t.2.1.data.toList t.2.1.size
 decide (0 <= toldRd t.2.2) && (decide ((bndX 68 q : Int) + bndX 66 q + toldRd t.2.2 <= 31) && (decide (0 <= toldRs1 t.2.2) && (decide ((bndX 83 q : Int) + bndX 66 q + toldRs1 t.2.2 <= 31) && (decide (bndX 84 q <= 31) && (decide (Pic.most q < 2147483648) && (decide (Pic.high q < 2147483648) && (decide (t.2.1.size = 32) || decide (t.2.1.size = 16))))))))
theorem longs_ni : ((List.range 71).all fun n => n == 0 || rowNI (Tab.longRow n)) = true := by decide +kernel
theorem shorts_ni : ((List.range 27).all fun n => n == 0 || rowNI (Tab.shortRow n)) = true := by decide +kernel
theorem imm_ni (s : ByteArray) (neg : Bool) (W : Nat) (h1 : Pic.most (Pic.rv s.data.toList s.size) < 2147483648) (h2 : Pic.high (Pic.rv s.data.toList s.size) < 2147483648) : -4294967296 <= immOf s neg W /\ immOf s neg W < 4294967296 := zq327
def niOf (i : Ins) : NI := ⟨i.op, i.rd.toNat, i.rs1.toNat, i.rs2.toNat, i.im, i.ln.toNat⟩
def InsNI (i : Ins) : Prop := NIOk (niOf i) /\ insV i = niV (niOf i)
theorem insNI_of (i : Ins) (a0 : 0 <= i.rd) (a1 : i.rd < 32) (b0 : 0 <= i.rs1) (b1 : i.rs1 < 32) (c0 : 0 <= i.rs2) (c1 : i.rs2 < 32) (d0 : -4294967296 <= i.im) (d1 : i.im < 4294967296) (e : i.ln = 2 \/ i.ln = 4) : InsNI i := by
 obtain ⟨op, rd, rs1, rs2, im, ln⟩ := i
 dsimp only at *
 refine ⟨⟨?_, ?_, ?_, d0, d1, ?_⟩, ?_⟩
 . show rd.toNat < 32; omega
 . show rs1.toNat < 32; omega
 . show rs2.toNat < 32; omega
 . show ln.toNat = 2 \/ ln.toNat = 4; omega
 . unfold insV niV niOf
   dsimp only
   rw [Int.toNat_of_nonneg a0, Int.toNat_of_nonneg b0, Int.toNat_of_nonneg c0, Int.toNat_of_nonneg (by omega)]
theorem row_ni (t : Int × ByteArray × Int) (h : rowNI t = true) (W : Nat) : InsNI (rowIns t W) := by
 unfold rowNI at h
 simp only [Bool.and_eq_true, Bool.or_eq_true, decide_eq_true_eq] at h
 obtain ⟨h1, h2, h3, h4, h5, h6, h7, h8⟩ := h
 have r1 := reg_bndX t.2.1 68 W
 have r2 := reg_bndX t.2.1 66 W
 have r3 := reg_bndX t.2.1 83 W
 have r4 := reg_bndX t.2.1 84 W
 have im := imm_ni t.2.1 (hasB t.2.2 1) W h6 h7
 unfold rowIns
 refine insNI_of _ ?_ ?_ ?_ ?_ ?_ ?_ im.1 im.2 ?_ <;> dsimp only <;> omega
theorem scan_some (f : Nat -> Option Ins) (P : Ins -> Prop) : ∀ (m n : Nat), (∀ k, n <= k -> k < n + m -> ∀ i, f k = some i -> P i) -> ∀ i, scan f n m = some i -> P i
 | 0, n, h, i, hs => by simp [scan] at hs
 | m + 1, n, h, i, hs => by
  rw [scan_step] at hs
  cases hf : f n with
  | some j =>
   rw [hf] at hs
   simp only [Option.some.injEq] at hs
   exact h n (Nat.le_refl _) (by omega) i (by rw [hf, hs])
  | none =>
   rw [hf] at hs
   exact scan_some f P m (n + 1) (fun k h1 h2 => h k (by omega) (by omega)) i hs
theorem rows_of {f : Nat -> Bool} {m : Nat} (h : ((List.range m).all fun n => n == 0 || f n) = true) (n : Nat) (h1 : 1 <= n) (h2 : n < m) : f n = true := by
 have h := List.all_eq_true.1 h n (List.mem_range.2 h2)
 have e : (n == 0) = false := by simp; omega
 rw [e, Bool.false_or] at h
 exact h
theorem size_in (x : Int) (h : ¬ sizeOf x = 0) : sizeOf x = 2 \/ sizeOf x = 4 := by
 unfold sizeOf at h |-
 split at h
 . exact absurd rfl h
 . next h1 =>
   rw [if_neg h1]
   split at h
   . next h2 => rw [if_pos h2]; exact .inr rfl
   . next h2 =>
     rw [if_neg h2]
     split at h
     . next h3 => rw [if_pos h3]; exact .inl rfl
     . exact absurd rfl h
theorem decode_all (P : Ins -> Prop) (f : Int × ByteArray × Int -> Bool) (hl : ((List.range 71).all fun n => n == 0 || f (Tab.longRow n)) = true) (hr : ((List.range 27).all fun n => n == 0 || f (Tab.shortRow n)) = true) (hf : ∀ t, f t = true -> ∀ W, P (rowIns t W)) (h0 : ∀ z, z = 2 \/ z = 4 -> P ⟨0, 0, 0, 0, 0, z⟩) (x : Int) (h : (decodeD x).2 = 0) : P (decodeD x).1 := by
 unfold decodeD at h |-
 by_cases h0' : sizeOf x = 0
 . rw [if_pos h0'] at h; exact absurd h (by decide)
 rw [if_neg h0']
 have hs := size_in x h0'
 cases hc : scan (rowMeans (sizeOf x) x.toNat) 1 (rowCount (sizeOf x)).toNat with
 | none => exact h0 _ hs
 | some i =>
  refine scan_some _ P _ _ (fun k k1 k2 j hj => ?_) i hc
  unfold rowMeans at hj
  split at hj
  . simp only [Option.some.injEq] at hj
    rw [<- hj]
    refine hf _ ?_ _
    rcases hs with e | e
    . rw [e] at k2 |-
      rw [show (rowCount 2).toNat = 26 from rfl] at k2
      exact rows_of (f := fun n => f (Tab.shortRow n)) hr k k1 (by omega)
    . rw [e] at k2 |-
      rw [show (rowCount 4).toNat = 70 from rfl] at k2
      exact rows_of (f := fun n => f (Tab.longRow n)) hl k k1 (by omega)
  . cases hj
theorem decode_ni (x : Int) (h : (decodeD x).2 = 0) : InsNI (decodeD x).1 :=
 decode_all InsNI rowNI longs_ni shorts_ni row_ni (fun z hz => insNI_of _ (Int.le_refl 0) (show (0 : Int) < 32 by decide) (Int.le_refl 0) (show (0 : Int) < 32 by decide) (Int.le_refl 0) (show (0 : Int) < 32 by decide) (show (-4294967296 : Int) <= 0 by decide) (show (0 : Int) < 4294967296 by decide) hz) x h
section
attribute [local go_sem ↓] Go.wp_at_zero Go.wp_at_succ
theorem x_Peek_no (mb rb X) (hX : XOk X) (off n : Int) (hn : n <= 9223372036854775807) (h : n < 0 \/ off < 0 \/ (X.b.ram.length : Int) - n < off) (w) (hw : Hid (XAt w mb rb X)) :
 CS 111 #[.pointer (some ⟨mb, 0, none⟩), .int .i64 off, .int .i64 n] (.tuple #[.string ⟨#[]⟩, .int .i64 2]) w := by
 have c0 := hw.out.c0
 have hl := hX.b.ram
 by_cases h1 : n < 0
 . have q : decide (n < 0) = true := by simp [h1]
   clear h h1 hn hl hX
   exact zq328
 have q : decide (n < 0) = false := by simp; omega
 by_cases h2 : off < 0
 . have q2 : decide (off < 0) = true := by simp [h2]
   clear h h1 h2 hn hl hX
   exact zq328
 have q2 : decide (off < 0) = false := by simp; omega
 have e : IntKind.i64.wrap ((X.b.ram.length : Int) - n) = (X.b.ram.length : Int) - n := zq115
 have q3 : decide ((X.b.ram.length : Int) - n < off) = true := by simp; omega
 have q4 : decide (off > (X.b.ram.length : Int) - n) = true := by simp; omega
 clear h h1 h2 hl hX hn
 exact zq328
set_option maxRecDepth 100000 in
theorem x_Peek (mb rb X) (hX : XOk X) (off n : Nat) (h : off + n <= X.b.ram.length) (w) (hw : Hid (XAt w mb rb X)) :
 CS 111 #[.pointer (some ⟨mb, 0, none⟩), .int .i64 off, .int .i64 n] (.tuple #[.string (pkB X.b.ram off n), .int .i64 0]) w := by
 have c0 := hw.out.c0
 have hr := hX.b.ram
 have q1 : decide ((off : Int) < 0) = false := by simp
 have q2 : decide ((n : Int) < 0) = false := by simp
 have q3 : decide ((X.b.ram.length : Int) < (n : Int)) = false := by simp; omega
 have q4 : decide ((X.b.ram.length : Int) - n < (off : Int)) = false := by simp; omega
 have hpk : ∃ o2, (∀ w, (Instr.slice 64 (.slice (some ⟨rb, 0, none⟩) X.b.ram.length X.b.ram.length) (some (.int .i64 (off : Int))) (some (.int .i64 ((off : Int) + n))) none).run prog w = .ok (.slice (some ⟨rb, o2, none⟩) n (X.b.ram.length - off)) w) /\ (n = 0 \/ o2 = off) := by
  have hr : ∀ w, (Instr.slice 64 (.slice (some ⟨rb, 0, none⟩) X.b.ram.length X.b.ram.length) (some (.int .i64 (off : Int))) (some (.int .i64 ((off : Int) + n))) none).run prog w = .ok (.slice (if X.b.ram.length = off then some ⟨rb, 0, none⟩ else some ⟨rb, off, none⟩) n (X.b.ram.length - off)) w := by
   intro w
   have hu : prog.underlying 64 = some (.slice (prog.elem 64)) := by kernel_rfl
   have h := run_slice_lh (P := prog) w 64 (some ⟨rb, 0, none⟩) X.b.ram.length X.b.ram.length hu .i64 .i64 (off : Int) ((off : Int) + n) (by omega) (by omega) (by omega)
   rw [h]
   have hz : (_root_.Go.sizeOf (prog.elem 64)).run prog w = .ok 1 w := by kernel_rfl
   rw [hz]
   simp only [Result.andThen, sliced]
   rw [show ((off : Int)).toNat = off by omega, show ((off : Int) + n).toNat = off + n by omega, Nat.mul_one, Option.map_some, show (⟨rb, 0, none⟩ : Addr).add off = ⟨rb, off, none⟩ by (simp [Addr.add]; intro h; exact h.symm), show off + n - off = n by omega]
  by_cases hc : X.b.ram.length = off
  . exact ⟨0, fun w => by rw [hr w, if_pos hc], .inl (by omega)⟩
  . exact ⟨off, fun w => by rw [hr w, if_neg hc], .inr rfl⟩
 obtain ⟨o2, hsl, ho2⟩ := hpk
 have hcv : (convert 64 9 (.slice (some ⟨rb, o2, none⟩) n (X.b.ram.length - off))).run prog w = .ok (.string (pkB X.b.ram off n)) w := by
  refine run_convert_bytes_arg w 64 5 Tryz.underlying64 Tryz.underlying5 rb o2 n (X.b.ram.length - off) _ (by simp; omega) (fun i hi => ?_) 9 Tryz.underlying9
  rcases ho2 with h0 | rfl
  . omega
  . rw [hw.out.ram (o2 + i) (by omega)]
    simp [List.getD, List.getElem?_map, List.getElem?_take, List.getElem?_drop, hi, List.getElem?_eq_getElem (show o2 + i < X.b.ram.length by omega)]
 obtain ⟨S, hS⟩ := zn1 (pkB X.b.ram off n)
 rw [<- hS] at hcv |-
 clear hS ho2
 obtain ⟨L, hL⟩ := zn1 (X.b.ram.length)
 rw [<- hL] at c0 hr h q3 q4 hsl hcv
 clear hL hw hX
 exact zq328
theorem x_instruct_f (mb rb X) (hX : XOk X) (hf : ¬ (fetchD X.b (xC X) X.pc).1.f = 0) (w) (hw : Hid (XAt w mb rb X)) :
 CX 81 #[.pointer (some ⟨mb, 0, none⟩)] (.tuple #[niV ⟨0, 0, 0, 0, 0, 0⟩, excA (xfauD (fetchD X.b (xC X) X.pc).1.f 0) (fetchD X.b (xC X) X.pc).1.at']) [mb, rb] mb rb (X.withB (fetchD X.b (xC X) X.pc).2) w := by
 have hlt := hw.out.lt
 have hrlt := hw.out.rlt
 have hlt' : ¬ mb = w.heap.size := by omega
 have hwa : Hid (XAt ((w.alloc (.cells #[.int .i64 0, .int .i64 0, .int .i64 0, .int .i64 0, .int .i64 0, .int .i64 0] 60)).alloc (.cells #[.int .i64 0, .int .i64 0] 118)) mb rb X) := zq22
 have FE := hide1 (fun W h => x_fetch mb rb X hX W h)
 obtain ⟨⟨T, B⟩, hT⟩ : ∃ T, T = fetchD X.b (xC X) X.pc := ⟨_, rfl⟩
 simp only [<- hT] at FE hf |-
 try dsimp only at FE hf |-
 have ev : fwV T = .tuple #[.int .i64 0, .agg #[.int .i64 (xfauD T.f 0), .int .i64 T.at']] := by unfold fwV; rw [if_neg hf]
 simp only [ev] at FE
 have hn := xfau_ne T.f 0
 have e0 : ((0 : Nat) : Int) = 0 := rfl
 obtain ⟨c, hc⟩ := zn1 (xfauD T.f 0)
 obtain ⟨t, ht⟩ := zn1 (T.at')
 simp only [<- hc, <- ht] at FE hn |-
 unfold niV excA
 dsimp only
 clear hX hT ev hc ht hf e0
 go_enter func81, ntmps81
 go_wp2_with fail
 refine (FE.out _ hwa).mono ?_
 rintro o w1 ⟨rfl, hx1, hk1⟩
 obtain ⟨_, _, _, _, _, _, _, _, _, _, _, _, _, _, _, _⟩ : Zc6 w1 w.heap.size 0 0 0 0 0 0 := zq168
 obtain ⟨rc0w1, rc1w1, rfw1, rzw1, rzw11, rnw11, rzw12, rnw12, rzw13, rnw13, rzw14, rnw14⟩ : Zc2 w1 (w.heap.size + 1) 0 0 := zq167
 go_upto_region 3 with (go_at_call 82; refine (x_none _ _ _).mono ?_; rintro o wn ⟨rfl, rfl⟩)
 go_region
 all_goals
  go_wp2_with fail
  refine bodyPost_ret (v := .tuple #[.agg #[.int .i64 0, .int .i64 0, .int .i64 0, .int .i64 0, .int .i64 0, .int .i64 0], .agg #[.int .i64 c, .int .i64 t]]) zq524 rfl ⟨rfl, ?_, ?_⟩
  . refine hx1.more (G := [w.heap.size, w.heap.size + 1]) ?_ (by simp; omega) (by simp; omega)
    exact zq273
  . exact zq274
theorem x_instruct_n (mb rb X) (hX : XOk X) (hf : (fetchD X.b (xC X) X.pc).1.f = 0) (hd : ¬ (decodeD (fetchD X.b (xC X) X.pc).1.w).2 = 0) (w) (hw : Hid (XAt w mb rb X)) :
 CX 81 #[.pointer (some ⟨mb, 0, none⟩)] (.tuple #[niV ⟨0, 0, 0, 0, 0, 0⟩, excA 2 (fetchD X.b (xC X) X.pc).1.w]) [mb, rb] mb rb (X.withB (fetchD X.b (xC X) X.pc).2) w := by
 have hlt := hw.out.lt
 have hrlt := hw.out.rlt
 have hlt' : ¬ mb = w.heap.size := by omega
 have hwa : Hid (XAt ((w.alloc (.cells #[.int .i64 0, .int .i64 0, .int .i64 0, .int .i64 0, .int .i64 0, .int .i64 0] 60)).alloc (.cells #[.int .i64 0, .int .i64 0] 118)) mb rb X) := zq22
 have FE := hide1 (fun W h => x_fetch mb rb X hX W h)
 obtain ⟨⟨T, B⟩, hT⟩ : ∃ T, T = fetchD X.b (xC X) X.pc := ⟨_, rfl⟩
 simp only [<- hT] at FE hf hd |-
 try dsimp only at FE hf hd |-
 have ev : fwV T = .tuple #[.int .i64 T.w, .agg #[.int .i64 (-1), .int .i64 0]] := by unfold fwV; rw [if_pos hf]
 simp only [ev] at FE
 obtain ⟨v, hv⟩ := zn1 (T.w)
 simp only [<- hv] at FE hd |-
 have DE := hide1 (fun W => i_Decode (v : Int) W)
 obtain ⟨⟨⟨i0, i1, i2, i3, i4, i5⟩, e⟩, hD⟩ : ∃ D, D = decodeD (v : Int) := ⟨_, rfl⟩
 simp only [<- hD] at DE hd
 try dsimp only at DE hd
 unfold insV at DE
 have qe : (e != 0) = true := by simp [hd]
 unfold niV excA
 dsimp only
 clear hX hT ev hv hf hD hd
 go_enter func81, ntmps81
 go_wp2_with fail
 refine (FE.out _ hwa).mono ?_
 rintro o w1 ⟨rfl, hx1, hk1⟩
 obtain ⟨_, _, _, _, _, _, _, _, _, _, _, _, _, _, _, _⟩ : Zc6 w1 w.heap.size 0 0 0 0 0 0 := zq168
 obtain ⟨rc0w1, rc1w1, rfw1, rzw1, rzw11, rnw11, rzw12, rnw12, rzw13, rnw13, rzw14, rnw14⟩ : Zc2 w1 (w.heap.size + 1) 0 0 := zq167
 go_wp2_with (go_at_call 82; refine (x_none _ _ _).mono ?_; rintro o wn ⟨rfl, rfl⟩)
 refine (DE.out _).mono ?_
 rintro o w2 ⟨rfl, hb2⟩
 have hk2 := Below.kept hb2 []
 obtain ⟨_, _, _, _, _, _, _, _, _, _, _, _, _, _, _, _⟩ : Zc6 w2 w.heap.size 0 0 0 0 0 0 := zq173
 obtain ⟨rc0w2, rc1w2, rfw2, rzw2, rzw21, rnw21, rzw22, rnw22, rzw23, rnw23, rzw24, rnw24⟩ : Zc2 w2 (w.heap.size + 1) 0 0 := zq169
 go_wp2_with fail
 refine bodyPost_ret (v := .tuple #[.agg #[.int .i64 0, .int .i64 0, .int .i64 0, .int .i64 0, .int .i64 0, .int .i64 0], .agg #[.int .i64 2, .int .i64 v]]) zq524 rfl ⟨rfl, ?_, ?_⟩
 . refine ((hx1.alloc _).alloc _ |>.kept hk2).more (G := [w.heap.size, w.heap.size + 1]) ?_ (by simp; omega) (by simp; omega)
   repeat (first | (with_reducible exact Kept.refl _ _) | (with_reducible refine Kept.setCell ?_ (Or.inl (by simp; done)) _) | (with_reducible refine Kept.setCell ?_ (Or.inr zq491) _) | (with_reducible refine Kept.drew ?_) | (with_reducible refine Kept.alloc ?_ _))
 . exact zq271
theorem XAt.pcS {w : World} {mb rb : Nat} {X : XS} {p : Nat} (h : XAt w mb rb X) : XAt (w.setCell ⟨mb, 33, none⟩ (.int .i64 p)) mb rb { X with pc := p } := h.set 33 _ rfl rfl (by omega)
theorem XAt.other {w : World} {mb rb : Nat} {X : XS} (b k : Nat) (v : Value) (h : XAt w mb rb X) (h1 : mb ≠ b) (h2 : rb ≠ b) : XAt (w.setCell ⟨b, k, none⟩ v) mb rb X := h.more (G := [b]) ((Kept.refl _ _).setCell (.inl (by simp)) _) (by simp; exact h1) (by simp; exact h2)
theorem fetch_ok {B : BusS} (hB : BusOk B) (C : CsrS) (pc : Nat) : BusOk (fetchD B C pc).2 := by
 have h1 := half_ok hB C pc
 have h2 := half_ok h1 C ((pc + 2) % 4294967296)
 unfold fetchD
 repeat' split
 all_goals first | exact h2 | exact h1
theorem x_instruct_g (mb rb X) (hX : XOk X) (hf : (fetchD X.b (xC X) X.pc).1.f = 0) (hd : (decodeD (fetchD X.b (xC X) X.pc).1.w).2 = 0) (N : NI) (hN : N = niOf (decodeD (fetchD X.b (xC X) X.pc).1.w).1) (c : Int) (t : Nat) (Y : XS) (hY : croX (X.withB (fetchD X.b (xC X) X.pc).2) N (fetchD X.b (xC X) X.pc).1.w = ((c, t), Y)) (hc : ¬ c = -1) (w) (hw : Hid (XAt w mb rb X)) :
 CX 81 #[.pointer (some ⟨mb, 0, none⟩)] (.tuple #[niV ⟨0, 0, 0, 0, 0, 0⟩, excA c t]) [mb, rb] mb rb Y w := by
 have hlt := hw.out.lt
 have hrlt := hw.out.rlt
 have hlt' : ¬ mb = w.heap.size := by omega
 have hwa : Hid (XAt ((w.alloc (.cells #[.int .i64 0, .int .i64 0, .int .i64 0, .int .i64 0, .int .i64 0, .int .i64 0] 60)).alloc (.cells #[.int .i64 0, .int .i64 0] 118)) mb rb X) := zq22
 have FE := hide1 (fun W h => x_fetch mb rb X hX W h)
 have hok := fetch_ok hX.b (xC X) X.pc
 obtain ⟨⟨T, B⟩, hT⟩ : ∃ T, T = fetchD X.b (xC X) X.pc := ⟨_, rfl⟩
 simp only [<- hT] at FE hf hd hN hY hok |-
 try dsimp only at FE hf hd hN hY hok |-
 have ev : fwV T = .tuple #[.int .i64 T.w, .agg #[.int .i64 (-1), .int .i64 0]] := by unfold fwV; rw [if_pos hf]
 simp only [ev] at FE
 obtain ⟨v, hv⟩ := zn1 (T.w)
 simp only [<- hv] at FE hd hN hY |-
 have hni := decode_ni (v : Int) hd
 have DE := hide1 (fun W => i_Decode (v : Int) W)
 simp only [hd, hni.2, <- hN] at DE
 have hNO : NIOk N := by rw [hN]; exact hni.1
 have hXB := XS.okB hX hok
 have NP := hide1 (fun W h => x_nextPc mb rb (X.withB B) hXB N hNO W h)
 have CO := hide1 (fun W h => x_carryOut mb rb (X.withB B) hXB N hNO v W h)
 simp only [hY] at CO
 obtain ⟨Z, hZ⟩ := zn1 (X.withB B)
 simp only [<- hZ] at FE NP CO |-
 obtain ⟨p, hp⟩ := zn1 (npcD Z N)
 simp only [<- hp] at NP |-
 have qc : (c == -1) = false := by simp [hc]
 unfold niV at DE NP CO |-
 unfold excA at CO |-
 clear hX hT ev hv hf hd hni hN hNO hXB hok hY hp hZ
 obtain ⟨op, rd, rs1, rs2, im, ln⟩ := N
 dsimp only at *
 clear hc
 go_enter func81, ntmps81
 go_wp2_with fail
 refine (FE.out _ hwa).mono ?_
 rintro o w1 ⟨rfl, hx1, hk1⟩
 obtain ⟨_, _, _, _, _, _, _, _, _, _, _, _, _, _, _, _⟩ : Zc6 w1 w.heap.size 0 0 0 0 0 0 := zq168
 obtain ⟨rc0w1, rc1w1, rfw1, rzw1, rzw11, rnw11, rzw12, rnw12, rzw13, rnw13, rzw14, rnw14⟩ : Zc2 w1 (w.heap.size + 1) 0 0 := zq167
 go_wp2_with (go_at_call 82; refine (x_none _ _ _).mono ?_; rintro o wn ⟨rfl, rfl⟩)
 refine (DE.out _).mono ?_
 rintro o w2 ⟨rfl, hb2⟩
 have hk2 := Below.kept hb2 []
 obtain ⟨_, _, _, _, _, _, _, _, _, _, _, _, _, _, _, _⟩ : Zc6 w2 w.heap.size 0 0 0 0 0 0 := zq173
 obtain ⟨rc0w2, rc1w2, rfw2, rzw2, rzw21, rnw21, rzw22, rnw22, rzw23, rnw23, rzw24, rnw24⟩ : Zc2 w2 (w.heap.size + 1) 0 0 := zq169
 obtain ⟨mc0w2, mc1w2, mfw2, mzw2, mzw21, mnw21, mzw22, mnw22, mzw23, mnw23, mzw24, mnw24⟩ : Zc2 w2 w1.heap.size (-1) 0 := zq170
 have hx2 := hide1 (((hx1.alloc _).alloc _ |>.kept hk2).alloc (.cells #[.int .i64 op, .int .i64 rd, .int .i64 rs1, .int .i64 rs2, .int .i64 im, .int .i64 ln] 60))
 go_wp2_with fail
 refine (NP.out _ hx2).mono ?_
 rintro o w3 ⟨rfl, hk3⟩
 obtain ⟨_, _, _, _, _, _, _, _, _, _, _, _, _, _, _, _⟩ : Zc6 w3 w.heap.size 0 0 0 0 0 0 := zq174
 obtain ⟨rc0w3, rc1w3, rfw3, rzw3, rzw31, rnw31, rzw32, rnw32, rzw33, rnw33, rzw34, rnw34⟩ : Zc2 w3 (w.heap.size + 1) 0 0 := zq175
 obtain ⟨_, _, _, _, _, _, _, _, _, _, _, _⟩ : Zc2 w3 w1.heap.size (-1) 0 := zq175
 obtain ⟨ic0w3, ic1w3, ic2w3, ic3w3, ic4w3, ic5w3, ifw3, izw3, izw31, inw31, izw32, inw32, izw33, inw33, izw34, inw34⟩ : Zc6 w3 w2.heap.size op rd rs1 rs2 im ln := zq176
 have hx3 := hide1 (hx2.out.kept hk3)
 go_wp2_with fail
 refine (CO.out _ hx3).mono ?_
 rintro o w4 ⟨rfl, hx4, hk4⟩
 obtain ⟨_, _, _, _, _, _, _, _, _, _, _, _, _, _, _, _⟩ : Zc6 w4 w.heap.size 0 0 0 0 0 0 := zq177
 obtain ⟨rc0w4, rc1w4, rfw4, rzw4, rzw41, rnw41, rzw42, rnw42, rzw43, rnw43, rzw44, rnw44⟩ : Zc2 w4 (w.heap.size + 1) 0 0 := zq165
 obtain ⟨_, _, _, _, _, _, _, _, _, _, _, _⟩ : Zc2 w4 w1.heap.size (-1) 0 := zq165
 obtain ⟨_, _, _, _, _, _, _, _, _, _, _, _, _, _, _, _⟩ : Zc6 w4 w2.heap.size op rd rs1 rs2 im ln := zq177
 have c33 := hx4.c33
 have hfr := hx4.fro
 have hl4 := hx4.lt
 go_upto_region 10 with (go_at_call 82; refine (x_none _ _ _).mono ?_; rintro o wn ⟨rfl, rfl⟩)
 go_region
 all_goals
  go_wp2_with fail
  refine bodyPost_ret (v := .tuple #[.agg #[.int .i64 0, .int .i64 0, .int .i64 0, .int .i64 0, .int .i64 0, .int .i64 0], .agg #[.int .i64 c, .int .i64 t]]) zq524 rfl ⟨rfl, ?_, ?_⟩
  . exact zq329
  . exact zq330
theorem x_instruct_y (mb rb X) (hX : XOk X) (hf : (fetchD X.b (xC X) X.pc).1.f = 0) (hd : (decodeD (fetchD X.b (xC X) X.pc).1.w).2 = 0) (N : NI) (hN : N = niOf (decodeD (fetchD X.b (xC X) X.pc).1.w).1) (c : Int) (t : Nat) (Y : XS) (hY : croX (X.withB (fetchD X.b (xC X) X.pc).2) N (fetchD X.b (xC X) X.pc).1.w = ((c, t), Y)) (hc : c = -1) (w) (hw : Hid (XAt w mb rb X)) :
 CX 81 #[.pointer (some ⟨mb, 0, none⟩)] (.tuple #[niV N, excA c t]) [mb, rb] mb rb ({ Y with pc := npcD (X.withB (fetchD X.b (xC X) X.pc).2) N }) w := by
 have hlt := hw.out.lt
 have hrlt := hw.out.rlt
 have hlt' : ¬ mb = w.heap.size := by omega
 have hwa : Hid (XAt ((w.alloc (.cells #[.int .i64 0, .int .i64 0, .int .i64 0, .int .i64 0, .int .i64 0, .int .i64 0] 60)).alloc (.cells #[.int .i64 0, .int .i64 0] 118)) mb rb X) := zq22
 have FE := hide1 (fun W h => x_fetch mb rb X hX W h)
 have hok := fetch_ok hX.b (xC X) X.pc
 obtain ⟨⟨T, B⟩, hT⟩ : ∃ T, T = fetchD X.b (xC X) X.pc := ⟨_, rfl⟩
 simp only [<- hT] at FE hf hd hN hY hok |-
 try dsimp only at FE hf hd hN hY hok |-
 have ev : fwV T = .tuple #[.int .i64 T.w, .agg #[.int .i64 (-1), .int .i64 0]] := by unfold fwV; rw [if_pos hf]
 simp only [ev] at FE
 obtain ⟨v, hv⟩ := zn1 (T.w)
 simp only [<- hv] at FE hd hN hY |-
 have hni := decode_ni (v : Int) hd
 have DE := hide1 (fun W => i_Decode (v : Int) W)
 simp only [hd, hni.2, <- hN] at DE
 have hNO : NIOk N := by rw [hN]; exact hni.1
 have hXB := XS.okB hX hok
 have NP := hide1 (fun W h => x_nextPc mb rb (X.withB B) hXB N hNO W h)
 have CO := hide1 (fun W h => x_carryOut mb rb (X.withB B) hXB N hNO v W h)
 simp only [hY] at CO
 obtain ⟨Z, hZ⟩ := zn1 (X.withB B)
 simp only [<- hZ] at FE NP CO |-
 obtain ⟨p, hp⟩ := zn1 (npcD Z N)
 simp only [<- hp] at NP |-
 have qc : (c == -1) = true := by simp [hc]
 unfold niV at DE NP CO |-
 unfold excA at CO |-
 clear hX hT ev hv hf hd hni hN hNO hXB hok hY hp hZ
 obtain ⟨op, rd, rs1, rs2, im, ln⟩ := N
 dsimp only at *
 clear hc
 go_enter func81, ntmps81
 go_wp2_with fail
 refine (FE.out _ hwa).mono ?_
 rintro o w1 ⟨rfl, hx1, hk1⟩
 obtain ⟨_, _, _, _, _, _, _, _, _, _, _, _, _, _, _, _⟩ : Zc6 w1 w.heap.size 0 0 0 0 0 0 := zq168
 obtain ⟨rc0w1, rc1w1, rfw1, rzw1, rzw11, rnw11, rzw12, rnw12, rzw13, rnw13, rzw14, rnw14⟩ : Zc2 w1 (w.heap.size + 1) 0 0 := zq167
 go_wp2_with (go_at_call 82; refine (x_none _ _ _).mono ?_; rintro o wn ⟨rfl, rfl⟩)
 refine (DE.out _).mono ?_
 rintro o w2 ⟨rfl, hb2⟩
 have hk2 := Below.kept hb2 []
 obtain ⟨_, _, _, _, _, _, _, _, _, _, _, _, _, _, _, _⟩ : Zc6 w2 w.heap.size 0 0 0 0 0 0 := zq173
 obtain ⟨rc0w2, rc1w2, rfw2, rzw2, rzw21, rnw21, rzw22, rnw22, rzw23, rnw23, rzw24, rnw24⟩ : Zc2 w2 (w.heap.size + 1) 0 0 := zq169
 obtain ⟨mc0w2, mc1w2, mfw2, mzw2, mzw21, mnw21, mzw22, mnw22, mzw23, mnw23, mzw24, mnw24⟩ : Zc2 w2 w1.heap.size (-1) 0 := zq170
 have hx2 := hide1 (((hx1.alloc _).alloc _ |>.kept hk2).alloc (.cells #[.int .i64 op, .int .i64 rd, .int .i64 rs1, .int .i64 rs2, .int .i64 im, .int .i64 ln] 60))
 go_wp2_with fail
 refine (NP.out _ hx2).mono ?_
 rintro o w3 ⟨rfl, hk3⟩
 obtain ⟨_, _, _, _, _, _, _, _, _, _, _, _, _, _, _, _⟩ : Zc6 w3 w.heap.size 0 0 0 0 0 0 := zq174
 obtain ⟨rc0w3, rc1w3, rfw3, rzw3, rzw31, rnw31, rzw32, rnw32, rzw33, rnw33, rzw34, rnw34⟩ : Zc2 w3 (w.heap.size + 1) 0 0 := zq175
 obtain ⟨_, _, _, _, _, _, _, _, _, _, _, _⟩ : Zc2 w3 w1.heap.size (-1) 0 := zq175
 obtain ⟨ic0w3, ic1w3, ic2w3, ic3w3, ic4w3, ic5w3, ifw3, izw3, izw31, inw31, izw32, inw32, izw33, inw33, izw34, inw34⟩ : Zc6 w3 w2.heap.size op rd rs1 rs2 im ln := zq176
 have hx3 := hide1 (hx2.out.kept hk3)
 go_wp2_with fail
 refine (CO.out _ hx3).mono ?_
 rintro o w4 ⟨rfl, hx4, hk4⟩
 obtain ⟨_, _, _, _, _, _, _, _, _, _, _, _, _, _, _, _⟩ : Zc6 w4 w.heap.size 0 0 0 0 0 0 := zq177
 obtain ⟨rc0w4, rc1w4, rfw4, rzw4, rzw41, rnw41, rzw42, rnw42, rzw43, rnw43, rzw44, rnw44⟩ : Zc2 w4 (w.heap.size + 1) 0 0 := zq165
 obtain ⟨_, _, _, _, _, _, _, _, _, _, _, _⟩ : Zc2 w4 w1.heap.size (-1) 0 := zq165
 obtain ⟨_, _, _, _, _, _, _, _, _, _, _, _, _, _, _, _⟩ : Zc6 w4 w2.heap.size op rd rs1 rs2 im ln := zq177
 have c33 := hx4.c33
 have hfr := hx4.fro
 have hl4 := hx4.lt
 go_upto_region 12 with (go_at_call 82; refine (x_none _ _ _).mono ?_; rintro o wn ⟨rfl, rfl⟩)
 go_region
 all_goals
  go_wp2_with fail
  refine bodyPost_ret (v := .tuple #[.agg #[.int .i64 op, .int .i64 rd, .int .i64 rs1, .int .i64 rs2, .int .i64 im, .int .i64 ln], .agg #[.int .i64 c, .int .i64 t]]) zq524 rfl ⟨rfl, ?_, ?_⟩
  . exact zq329
  . exact zq330
end
def ni0 : NI := ⟨0, 0, 0, 0, 0, 0⟩
def insR (X : XS) (N : NI) (v : Nat) : (NI × (Int × Nat)) × XS :=
 if (croX X N v).1.1 = -1 then ((N, (croX X N v).1), { (croX X N v).2 with pc := npcD X N }) else ((ni0, (croX X N v).1), (croX X N v).2)
def insX (X : XS) : (NI × (Int × Nat)) × XS :=
 if (fetchD X.b (xC X) X.pc).1.f = 0 then
  (if (decodeD (fetchD X.b (xC X) X.pc).1.w).2 = 0 then insR (X.withB (fetchD X.b (xC X) X.pc).2) (niOf (decodeD (fetchD X.b (xC X) X.pc).1.w).1) (fetchD X.b (xC X) X.pc).1.w
   else ((ni0, (2, (fetchD X.b (xC X) X.pc).1.w)), X.withB (fetchD X.b (xC X) X.pc).2))
 else ((ni0, (xfauD (fetchD X.b (xC X) X.pc).1.f 0, (fetchD X.b (xC X) X.pc).1.at')), X.withB (fetchD X.b (xC X) X.pc).2)
theorem x_instruct (mb rb X) (hX : XOk X) (w) (hw : Hid (XAt w mb rb X)) :
 CX 81 #[.pointer (some ⟨mb, 0, none⟩)] (.tuple #[niV (insX X).1.1, excA (insX X).1.2.1 (insX X).1.2.2]) [mb, rb] mb rb ((insX X).2) w := by
 unfold insX
 by_cases hf : (fetchD X.b (xC X) X.pc).1.f = 0
 . rw [if_pos hf]
   by_cases hd : (decodeD (fetchD X.b (xC X) X.pc).1.w).2 = 0
   . rw [if_pos hd]
     unfold insR
     by_cases hc : (croX (X.withB (fetchD X.b (xC X) X.pc).2) (niOf (decodeD (fetchD X.b (xC X) X.pc).1.w).1) (fetchD X.b (xC X) X.pc).1.w).1.1 = -1
     . rw [if_pos hc]
       exact x_instruct_y mb rb X hX hf hd _ rfl _ _ _ rfl hc w hw
     . rw [if_neg hc]
       exact x_instruct_g mb rb X hX hf hd _ rfl _ _ _ rfl hc w hw
   . rw [if_neg hd]
     exact x_instruct_n mb rb X hX hf hd w hw
 . rw [if_neg hf]
   exact x_instruct_f mb rb X hX hf w hw
theorem wout_tb (a m i : Nat) : (wout a m).testBit i = (a.testBit i && !m.testBit i) := by
 have ha : a < 2 ^ (a + i + 1) := Nat.lt_of_lt_of_le Nat.lt_two_pow_self (Nat.pow_le_pow_right (by omega) (by omega))
 have hm : m % 2 ^ (a + i + 1) < 2 ^ (a + i + 1) := Nat.mod_lt _ (Nat.two_pow_pos _)
 rw [<- wout_eq a m (a + i + 1) ha, Nat.testBit_and, Nat.testBit_two_pow_sub_succ hm, Nat.testBit_mod_two_pow]
 have h1 : i < a + i + 1 := by omega
 simp [h1]
theorem mpp_tb (s : Nat) : s / 2048 % 4 ≠ 2 ↔ ¬ (s.testBit 12 = true /\ s.testBit 11 = false) := by
 rw [Nat.testBit_eq_decide_div_mod_eq, Nat.testBit_eq_decide_div_mod_eq]
 simp only [decide_eq_true_eq, decide_eq_false_iff_not]
 omega
theorem set_mpp (s m : Nat) (b : Bool) (h1 : m.testBit 11 = false) (h2 : m.testBit 12 = false) (hs : s / 2048 % 4 ≠ 2) : xsetD s m b / 2048 % 4 ≠ 2 := by
 rw [mpp_tb] at hs |-
 cases b <;> simp [xsetD, wout_tb, Nat.testBit_or, h1, h2] <;> simpa using hs
theorem wout_mpp (s m : Nat) (h1 : m.testBit 11 = false) (h2 : m.testBit 12 = false) (hs : s / 2048 % 4 ≠ 2) : wout s m / 2048 % 4 ≠ 2 := by
 rw [mpp_tb] at hs |-
 simp [wout_tb, h1, h2]; simpa using hs
theorem str_mpp (s mode : Nat) (hs : s / 2048 % 4 ≠ 2) : xstrD s mode / 2048 % 4 ≠ 2 := by
 unfold xstrD
 exact wout_mpp _ _ (by decide) (by decide) (set_mpp _ _ _ (by decide) (by decide) (set_mpp _ _ _ (by decide) (by decide) hs))
theorem mtr_mpp (s mode : Nat) (hm : mode = 0 \/ mode = 1 \/ mode = 3) : xmtrD s mode / 2048 % 4 ≠ 2 := by
 unfold xmtrD xmixD
 refine wout_mpp _ _ (by decide) (by decide) ?_
 rw [mpp_tb]
 have k1 : Nat.testBit 6144 12 = true := by decide
 have k2 : Nat.testBit 6144 11 = true := by decide
 simp only [Nat.testBit_or, Nat.testBit_and, wout_tb, k1, k2]
 rcases hm with rfl | rfl | rfl
 . simp
 . simp; decide
 . simp; decide
theorem sret_mpp (s : Nat) (hs : s / 2048 % 4 ≠ 2) : xsretD s / 2048 % 4 ≠ 2 := by
 unfold xsretD
 exact set_mpp _ 32 true (by decide) (by decide) (wout_mpp _ _ (by decide) (by decide) (set_mpp _ _ _ (by decide) (by decide) hs))
theorem mret_mpp (s : Nat) : xmretD s / 2048 % 4 ≠ 2 := by
 unfold xmretD
 refine set_mpp _ 128 true (by decide) (by decide) ?_
 rw [mpp_tb]
 have k1 : Nat.testBit 6144 12 = true := by decide
 simp [wout_tb, k1]
theorem stw_mpp (s v : Nat) (hs : s / 2048 % 4 ≠ 2) : xstwD s v / 2048 % 4 ≠ 2 := by
 unfold xstwD xmixD
 rw [mpp_tb] at hs
 have k1 : Nat.testBit 8257962 12 = false := by decide
 have k2 : Nat.testBit 8257962 11 = false := by decide
 have k3 : Nat.testBit 8264106 12 = true := by decide
 have k4 : Nat.testBit 8264106 11 = true := by decide
 split
 . rw [mpp_tb]; simp [Nat.testBit_or, Nat.testBit_and, wout_tb, k1, k2]; simpa using hs
 . next h =>
   rw [mpp_tb]; simp only [Nat.testBit_and, k3, k4, Bool.and_true]
   rintro ⟨h1, h2⟩
   apply h
   refine Nat.eq_of_testBit_eq fun i => ?_
   rw [Nat.testBit_and]
   by_cases e12 : i = 12
   . subst e12; rw [h1]; decide
   by_cases e11 : i = 11
   . subst e11; rw [h2]; decide
   have z : Nat.testBit 6144 i = false := by
    have e : (6144 : Nat) = 2 ^ 12 ||| 2 ^ 11 := by decide
    rw [e, Nat.testBit_or, Nat.testBit_two_pow, Nat.testBit_two_pow]; simp; omega
   have z2 : Nat.testBit 4096 i = false := by
    have e : (4096 : Nat) = 2 ^ 12 := by decide
    rw [e, Nat.testBit_two_pow]; simp; omega
   rw [z, z2]; simp
theorem mix_mpp (s v : Nat) (hs : s / 2048 % 4 ≠ 2) : xmixD s v 786722 / 2048 % 4 ≠ 2 := by
 unfold xmixD
 rw [mpp_tb] at hs |-
 have k1 : Nat.testBit 786722 12 = false := by decide
 have k2 : Nat.testBit 786722 11 = false := by decide
 simp [Nat.testBit_or, Nat.testBit_and, wout_tb, k1, k2]; simpa using hs
theorem sub_tb {a m : Nat} (h : a &&& m = a) (i : Nat) : a.testBit i = (a.testBit i && m.testBit i) := by rw [<- Nat.testBit_and, h]
theorem sub_of {a m : Nat} (h : ∀ i, a.testBit i = (a.testBit i && m.testBit i)) : a &&& m = a := Nat.eq_of_testBit_eq fun i => by rw [Nat.testBit_and]; exact (h i).symm
theorem sub_or {a b m : Nat} (h1 : a &&& m = a) (h2 : b &&& m = b) : (a ||| b) &&& m = a ||| b := by rw [Nat.and_comm, and_bits, Nat.and_comm m a, Nat.and_comm m b, h1, h2]
theorem sub_wout {a : Nat} (b : Nat) {m : Nat} (h : a &&& m = a) : wout a b &&& m = wout a b := by
 refine sub_of fun i => ?_
 have := sub_tb h i
 rw [wout_tb]; revert this; cases a.testBit i <;> cases b.testBit i <;> cases m.testBit i <;> simp
theorem sub_and {b : Nat} (a : Nat) {m : Nat} (h : b &&& m = b) : (a &&& b) &&& m = a &&& b := by rw [Nat.and_assoc, h]
theorem sub_mix {a k m : Nat} (v : Nat) (h1 : a &&& m = a) (h2 : k &&& m = k) : xmixD a v k &&& m = xmixD a v k := sub_or (sub_wout _ h1) (sub_and _ h2)
theorem sub_set {a k m : Nat} (b : Bool) (h1 : a &&& m = a) (h2 : k &&& m = k) : xsetD a k b &&& m = xsetD a k b := by
 cases b
 . exact sub_wout _ h1
 . exact sub_or h1 h2
theorem sub_le {a m : Nat} (h : a &&& m = a) : a <= m := by rw [<- h]; exact Nat.and_le_right
theorem str_sub {s : Nat} (mode : Nat) (h : s &&& 8264106 = s) : xstrD s mode &&& 8264106 = xstrD s mode := sub_wout _ (sub_set _ (sub_set _ h (by decide)) (by decide))
theorem mtr_sub {s : Nat} (mode : Nat) (h : s &&& 8264106 = s) : xmtrD s mode &&& 8264106 = xmtrD s mode := sub_wout _ (sub_mix _ (sub_set _ h (by decide)) (by decide))
theorem sret_sub {s : Nat} (h : s &&& 8264106 = s) : xsretD s &&& 8264106 = xsretD s := sub_or (sub_wout _ (sub_set _ h (by decide))) (by decide)
theorem mret_sub {s : Nat} (h : s &&& 8264106 = s) : xmretD s &&& 8264106 = xmretD s := by
 have h2 : xmretA s &&& 8264106 = xmretA s := by
  unfold xmretA; split
  . exact h
  . exact sub_wout _ h
 exact sub_or (sub_wout _ (sub_set _ h2 (by decide))) (by decide)
theorem stw_sub {s : Nat} (v : Nat) (h : s &&& 8264106 = s) : xstwD s v &&& 8264106 = xstwD s v := by
 unfold xstwD; split
 . exact sub_mix _ h (by decide)
 . exact sub_and _ (by decide)
theorem word_lt (x : Int) : wordN x < 4294967296 := by unfold wordN; omega
theorem ite_lt {p : Prop} [Decidable p] {x y m : Nat} (h1 : x < m) (h2 : y < m) : (if p then x else y) < m := by split <;> assumption
theorem alu_add_lt (a b : Nat) (ha : a < 4294967296) (hb : b < 4294967296) : alu_add a b < 4294967296 := by unfold alu_add; exact Nat.mod_lt _ (by decide)
theorem alu_sub_lt (a b : Nat) (ha : a < 4294967296) (hb : b < 4294967296) : alu_sub a b < 4294967296 := by unfold alu_sub; exact word_lt _
theorem alu_slt_lt (a b : Nat) (ha : a < 4294967296) (hb : b < 4294967296) : alu_slt a b < 4294967296 := by unfold alu_slt; exact ite_lt (by decide) (by decide)
theorem alu_sltu_lt (a b : Nat) (ha : a < 4294967296) (hb : b < 4294967296) : alu_sltu a b < 4294967296 := by unfold alu_sltu; exact ite_lt (by decide) (by decide)
theorem alu_xor_lt (a b : Nat) (ha : a < 4294967296) (hb : b < 4294967296) : alu_xor a b < 4294967296 := by unfold alu_xor; exact Nat.xor_lt_two_pow (n := 32) ha hb
theorem alu_or_lt (a b : Nat) (ha : a < 4294967296) (hb : b < 4294967296) : alu_or a b < 4294967296 := by unfold alu_or; exact nat_or_lt a b 32 ha hb
theorem alu_and_lt (a b : Nat) (ha : a < 4294967296) (hb : b < 4294967296) : alu_and a b < 4294967296 := by unfold alu_and; exact Nat.lt_of_le_of_lt Nat.and_le_left ha
theorem alu_sll_lt (a b : Nat) (ha : a < 4294967296) (hb : b < 4294967296) : alu_sll a b < 4294967296 := by unfold alu_sll; exact Nat.mod_lt _ (by decide)
theorem alu_srl_lt (a b : Nat) (ha : a < 4294967296) (hb : b < 4294967296) : alu_srl a b < 4294967296 := by unfold alu_srl; exact Nat.lt_of_le_of_lt (Nat.div_le_self _ _) ha
theorem alu_sra_lt (a b : Nat) (ha : a < 4294967296) (hb : b < 4294967296) : alu_sra a b < 4294967296 := by unfold alu_sra; exact word_lt _
theorem alu_mul_lt (a b : Nat) (ha : a < 4294967296) (hb : b < 4294967296) : alu_mul a b < 4294967296 := by unfold alu_mul; exact Nat.mod_lt _ (by decide)
theorem alu_mulh_lt (a b : Nat) (ha : a < 4294967296) (hb : b < 4294967296) : alu_mulh a b < 4294967296 := by unfold alu_mulh; exact word_lt _
theorem alu_mulhsu_lt (a b : Nat) (ha : a < 4294967296) (hb : b < 4294967296) : alu_mulhsu a b < 4294967296 := by unfold alu_mulhsu; exact word_lt _
theorem alu_mulhu_lt (a b : Nat) (ha : a < 4294967296) (hb : b < 4294967296) : alu_mulhu a b < 4294967296 := by unfold alu_mulhu; exact (Nat.div_lt_iff_lt_mul (by decide)).2 (Nat.mul_lt_mul'' ha hb)
theorem alu_div_lt (a b : Nat) (ha : a < 4294967296) (hb : b < 4294967296) : alu_div a b < 4294967296 := by unfold alu_div; exact ite_lt (by decide) (word_lt _)
theorem alu_divu_lt (a b : Nat) (ha : a < 4294967296) (hb : b < 4294967296) : alu_divu a b < 4294967296 := by unfold alu_divu; exact ite_lt (by decide) (Nat.lt_of_le_of_lt (Nat.div_le_self _ _) ha)
theorem alu_rem_lt (a b : Nat) (ha : a < 4294967296) (hb : b < 4294967296) : alu_rem a b < 4294967296 := by unfold alu_rem; exact ite_lt ha (word_lt _)
theorem alu_remu_lt (a b : Nat) (ha : a < 4294967296) (hb : b < 4294967296) : alu_remu a b < 4294967296 := by unfold alu_remu; exact ite_lt ha (Nat.lt_of_le_of_lt (Nat.mod_le _ _) ha)
theorem alu_swap_lt (a b : Nat) (ha : a < 4294967296) (hb : b < 4294967296) : alu_swap a b < 4294967296 := by unfold alu_swap; exact hb
theorem alu_min_lt (a b : Nat) (ha : a < 4294967296) (hb : b < 4294967296) : alu_min a b < 4294967296 := by unfold alu_min; exact ite_lt ha hb
theorem alu_max_lt (a b : Nat) (ha : a < 4294967296) (hb : b < 4294967296) : alu_max a b < 4294967296 := by unfold alu_max; exact ite_lt ha hb
theorem alu_minu_lt (a b : Nat) (ha : a < 4294967296) (hb : b < 4294967296) : alu_minu a b < 4294967296 := by unfold alu_minu; exact ite_lt ha hb
theorem alu_maxu_lt (a b : Nat) (ha : a < 4294967296) (hb : b < 4294967296) : alu_maxu a b < 4294967296 := by unfold alu_maxu; exact ite_lt ha hb
theorem alu_all (op : Int) (a b : Nat) (ha : a < 4294967296) (hb : b < 4294967296) : alu op a b < 4294967296 := by
 unfold alu
 refine ite_lt (alu_add_lt a b ha hb) ?_
 refine ite_lt (alu_sub_lt a b ha hb) ?_
 refine ite_lt (alu_slt_lt a b ha hb) ?_
 refine ite_lt (alu_sltu_lt a b ha hb) ?_
 refine ite_lt (alu_xor_lt a b ha hb) ?_
 refine ite_lt (alu_or_lt a b ha hb) ?_
 refine ite_lt (alu_and_lt a b ha hb) ?_
 refine ite_lt (alu_sll_lt a b ha hb) ?_
 refine ite_lt (alu_srl_lt a b ha hb) ?_
 refine ite_lt (alu_sra_lt a b ha hb) ?_
 refine ite_lt (alu_mul_lt a b ha hb) ?_
 refine ite_lt (alu_mulh_lt a b ha hb) ?_
 refine ite_lt (alu_mulhsu_lt a b ha hb) ?_
 refine ite_lt (alu_mulhu_lt a b ha hb) ?_
 refine ite_lt (alu_div_lt a b ha hb) ?_
 refine ite_lt (alu_divu_lt a b ha hb) ?_
 refine ite_lt (alu_rem_lt a b ha hb) ?_
 refine ite_lt (alu_remu_lt a b ha hb) ?_
 refine ite_lt (alu_swap_lt a b ha hb) ?_
 refine ite_lt (alu_min_lt a b ha hb) ?_
 refine ite_lt (alu_max_lt a b ha hb) ?_
 refine ite_lt (alu_minu_lt a b ha hb) ?_
 refine ite_lt (alu_maxu_lt a b ha hb) ?_
 decide
theorem fetch_lt (B : BusS) (C : CsrS) (pc : Nat) (h : pc < 4294967296) : (fetchD B C pc).1.w < 4294967296 /\ (fetchD B C pc).1.at' < 4294967296 /\ (fetchD B C pc).1.f <= 2 := by
 have h1 := half_lt B C pc h
 have h2 := half_lt (halfD B C pc).2 C ((pc + 2) % 4294967296) (Nat.mod_lt _ (by decide))
 unfold fetchD
 exact zq205
def regR (m : UInt8 -> Bool) (s : ByteArray) (W : Nat) (given : Int) : Int :=
 let q := Pic.rv s.data.toList s.size
 if Pic.cnt m q = 0 then given else if Pic.cnt m q = 3 then (Pic.val m q W : Int) + 8 else (Pic.val m q W : Int)
def topN : List UInt8 -> Nat
 | [] => 0
 | x :: q => if 97 <= x.toNat /\ topN q < x.toNat then x.toNat else topN q
def sumR (sg : Bool) (t : Nat) : List UInt8 -> Nat -> Int
 | [], _ => 0
 | x :: q, y => (if 97 <= x.toNat then (if sg = true /\ x.toNat = t then -((y % 2 * 2 ^ (x.toNat - 97) : Nat) : Int) else ((y % 2 * 2 ^ (x.toNat - 97) : Nat) : Int)) else 0) + sumR sg t q (y / 2)
def immR (s : ByteArray) (sg : Bool) (W : Nat) : Int := sumR sg (topN (Pic.rv s.data.toList s.size)) (Pic.rv s.data.toList s.size) W
namespace TabR
structure Row where
 op : Int
 pic : ByteArray
 sg : Bool
 rd : Int
 rs1 : Int
 no : ByteArray
end TabR
def barC (x : Ins) (c : UInt8) : Bool := (c == 105 && x.im == 0) || (c == 100 && x.rd == 0) || (c == 115 && x.rs1 == 0) || (c == 116 && x.rs2 == 0) || (c == 50 && x.rd == 2)
def insRf (t : TabR.Row) (W : Nat) : Ins :=
 ⟨t.op, regR (fun x => x == 68 || x == 66) t.pic W t.rd, regR (fun x => x == 83 || x == 66) t.pic W t.rs1, regR (fun x => x == 84) t.pic W 0, immR t.pic t.sg W, (t.pic.size : Int) / 8⟩
def fitR (t : TabR.Row) (W : Nat) : Bool := Pic.fits (Pic.rv t.pic.data.toList t.pic.size) W && (W / 2 ^ t.pic.size == 0)
def readR (t : TabR.Row) (W : Nat) : Bool := fitR t W && !(t.no.data.toList.any (barC (insRf t W)))
def rowOp (t : Int × ByteArray × Int) : Bool :=
 decide (1 <= t.1) && (decide (t.1 <= 70) && (!(decide (61 <= t.1) && decide (t.1 <= 66)) || (decide (Pic.most (Pic.rv t.2.1.data.toList t.2.1.size) <= 4095) && !hasB t.2.2 1)))
theorem longs_op : ((List.range 71).all fun n => n == 0 || rowOp (Tab.longRow n)) = true := by decide +kernel
theorem shorts_op : ((List.range 27).all fun n => n == 0 || rowOp (Tab.shortRow n)) = true := by decide +kernel
theorem imm_pos (s : ByteArray) (W : Nat) (h1 : Pic.most (Pic.rv s.data.toList s.size) <= 4095) : 0 <= immOf s false W /\ immOf s false W <= 4095 := by
 have a := Pic.sum_le_most (Pic.rv s.data.toList s.size) W
 unfold immOf
 rw [Pic.imm_of]
 split
 . next h => simp at h
 . omega
def OpOk (i : Ins) : Prop := 1 <= i.op /\ i.op <= 70 /\ (61 <= i.op /\ i.op <= 66 -> 0 <= i.im /\ i.im <= 4095)
theorem row_op (t : Int × ByteArray × Int) (h : rowOp t = true) (W : Nat) : OpOk (rowIns t W) := by
 unfold rowOp at h
 simp only [Bool.and_eq_true, Bool.or_eq_true, decide_eq_true_eq, Bool.not_eq_true', Bool.and_eq_false_iff, decide_eq_false_iff_not] at h
 obtain ⟨h1, h2, h3⟩ := h
 refine ⟨h1, h2, fun hc => ?_⟩
 have hc1 : 61 <= t.1 := hc.1
 have hc2 : t.1 <= 66 := hc.2
 rcases h3 with h3 | ⟨h3, h4⟩
 . rcases h3 with h3 | h3 <;> omega
 . have := imm_pos t.2.1 W h3
   unfold rowIns
   dsimp only
   rw [h4]
   exact this
theorem decode_op (x : Int) (h : ¬ (decodeD x).1.op = 0) : OpOk (decodeD x).1 /\ (decodeD x).2 = 0 := by
 have h2 : (decodeD x).2 = 0 := by
  unfold decodeD at h |-
  split
  . next q => rw [if_pos q] at h; exact absurd rfl h
  . split <;> rfl
 exact ⟨decode_all (fun i => ¬ i.op = 0 -> OpOk i) rowOp longs_op shorts_op (fun t ht W _ => row_op t ht W) (fun z _ q => absurd rfl q) x h2 h, h2⟩
structure XInv (X : XS) : Prop where
 ok : XOk X
 x0 : X.x.getD 0 0 = 0
 mip : X.c.mip &&& 546 = X.c.mip
 mst : X.c.mstatus &&& 8264106 = X.c.mstatus
 mie : X.c.mie &&& 2730 = X.c.mie
 med : X.c.medeleg &&& 46079 = X.c.medeleg
 mid : X.c.mideleg &&& 546 = X.c.mideleg
 inh : X.c.minh &&& 5 = X.c.minh
 pc2 : X.pc % 2 = 0
 mep : X.c.mepc % 2 = 0
 sep : X.c.sepc % 2 = 0
 mtv : X.c.mtvec.testBit 1 = false
 stv : X.c.stvec.testBit 1 = false
 mpv : X.mode ≠ 3 -> X.c.mstatus.testBit 17 = false
theorem Pic.sum_even : ∀ (q : List UInt8) (w : Nat), q.contains 97 = false -> Pic.sum q w % 2 = 0 /\ ∀ y, Pic.high q = y -> y % 2 = 0 \/ y = 0
 | [], w, _ => ⟨rfl, fun y h => .inr h.symm⟩
 | x :: q, w, h => by
  rw [List.contains_cons, Bool.or_eq_false_iff] at h
  have ih := Pic.sum_even q (w / 2) h.2
  have hx : x ≠ 97 := by intro e; rw [e] at h; exact absurd h.1 (by decide)
  unfold Pic.sum Pic.high
  cases hl : Pic.isLet x
  . exact ⟨by rw [cond_false]; omega, ih.2⟩
  . have hl' : 98 <= x.toNat := by
     unfold Pic.isLet at hl
     simp at hl
     have : x.toNat ≠ 97 := fun e => hx (UInt8.toNat_inj.1 e)
     omega
    obtain ⟨k, hk⟩ : ∃ k, x.toNat - 97 = k + 1 := ⟨x.toNat - 98, by omega⟩
    rw [cond_true, cond_true, hk, Nat.pow_succ]
    obtain ⟨b, hb⟩ := zn1 (w % 2 * 2 ^ k)
    refine ⟨by rw [<- Nat.mul_assoc, <- hb]; omega, fun y hy => .inl ?_⟩
    rcases Nat.le_total (2 ^ k * 2) (Pic.high q) with h1 | h1
    . rw [Nat.max_eq_right h1] at hy
      rcases ih.2 _ rfl with h2 | h2
      . omega
      . have := Nat.two_pow_pos k; omega
    . rw [Nat.max_eq_left h1] at hy; omega
def rowEv (t : Int × ByteArray × Int) : Bool := !(decide (t.1 = 3) || (decide (5 <= t.1) && decide (t.1 <= 10))) || !(Pic.rv t.2.1.data.toList t.2.1.size).contains 97
theorem longs_ev : ((List.range 71).all fun n => n == 0 || rowEv (Tab.longRow n)) = true := by decide +kernel
theorem shorts_ev : ((List.range 27).all fun n => n == 0 || rowEv (Tab.shortRow n)) = true := by decide +kernel
def EvI (i : Ins) : Prop := i.op = 3 \/ (5 <= i.op /\ i.op <= 10) -> i.im % 2 = 0
theorem row_ev (t : Int × ByteArray × Int) (h : rowEv t = true) (W : Nat) : EvI (rowIns t W) := by
 intro ho
 have ho' : t.1 = 3 \/ (5 <= t.1 /\ t.1 <= 10) := ho
 unfold rowEv at h
 have h2 : (Pic.rv t.2.1.data.toList t.2.1.size).contains 97 = false := by
  cases hc : (Pic.rv t.2.1.data.toList t.2.1.size).contains 97
  . rfl
  . rw [hc] at h; simp at h; omega
 have q := Pic.sum_even _ W h2
 show immOf t.2.1 (hasB t.2.2 1) W % 2 = 0
 exact zq331
theorem decode_ev (x : Int) (h : (decodeD x).2 = 0) : EvI (decodeD x).1 := decode_all EvI rowEv longs_ev shorts_ev row_ev (fun _ _ _ => rfl) x h
theorem wout_ev (v : Nat) (m : Nat) (hm : m.testBit 0 = true) : wout v m % 2 = 0 := by
 have := wout_tb v m 0
 rw [hm, Nat.testBit_zero] at this
 simp at this
 omega
theorem tb17 : Nat.testBit 131072 17 = true /\ Nat.testBit 131328 17 = true /\ Nat.testBit 8 17 = false /\ Nat.testBit 128 17 = false /\ Nat.testBit 32 17 = false /\ Nat.testBit 256 17 = false /\ Nat.testBit 2 17 = false /\ Nat.testBit 786722 17 = false /\ Nat.testBit 2 1 = true := by decide
theorem wout_2 (v : Nat) : (wout v 2).testBit 1 = false := by rw [wout_tb]; simp [tb17]
theorem XInv.withB {X : XS} (h : XInv X) {B : BusS} (hB : BusOk B) : XInv (X.withB B) := { h with ok := XS.okB h.ok hB }
theorem XInv.setR {X : XS} (h : XInv X) (d v : Nat) (hv : v < 4294967296) : XInv (setXR X d v) := by
 have h1 := XS.okR h.ok d v hv
 have e0 : (setXR X d v).x.getD 0 0 = 0 := by
  unfold setXR; split
  . exact h.x0
  . next hd =>
    have := h.x0
    dsimp only
    rw [List.getD_eq_getElem?_getD, List.getElem?_set_ne (by omega), <- List.getD_eq_getElem?_getD]; exact this
 have ec : (setXR X d v).c = X.c := zq112
 have ep : (setXR X d v).pc = X.pc /\ (setXR X d v).mode = X.mode := by unfold setXR; split <;> exact ⟨rfl, rfl⟩
 exact ⟨h1, e0, by rw [ec]; exact h.mip, by rw [ec]; exact h.mst, by rw [ec]; exact h.mie, by rw [ec]; exact h.med, by rw [ec]; exact h.mid, by rw [ec]; exact h.inh, by rw [ep.1]; exact h.pc2, by rw [ec]; exact h.mep, by rw [ec]; exact h.sep, by rw [ec]; exact h.mtv, by rw [ec]; exact h.stv, by rw [ec, ep.2]; exact h.mpv⟩
theorem XInv.unres {X : XS} (h : XInv X) : XInv (unresX X) := { h with ok := { h.ok with resv := by show 0 < _; decide } }
theorem XInv.ram {X : XS} (h : XInv X) {r : List UInt8} (hr : r.length = X.b.ram.length) : XInv (setRam X r) := { h with ok := { h.ok with b := setRam_ok h.ok.b hr } }
theorem XInv.pc' {X : XS} (h : XInv X) {p : Nat} (hp : p < 4294967296) (he : p % 2 = 0) : XInv { X with pc := p } := { h with ok := { h.ok with pc := hp }, pc2 := he }
theorem XInv.ite {p : Prop} [Decidable p] {X Y : XS} (h1 : XInv X) (h2 : XInv Y) : XInv (if p then X else Y) := by split <;> assumption
theorem sub_trans {a b c : Nat} (h1 : a &&& b = a) (h2 : b &&& c = b) : a &&& c = a := by rw [<- h1, Nat.and_assoc, h2]
theorem wout_lt (v m : Nat) (hv : v < 4294967296) : wout v m < 4294967296 := Nat.lt_of_le_of_lt (wout_le _ _) hv
theorem and_lt8 (v : Nat) : v &&& 7 < 8 := Nat.lt_of_le_of_lt Nat.and_le_right (by decide)
theorem sup_inv {X : XS} (h : XInv X) (n : Int) (v : Nat) (hv : v < 4294967296) : XInv (writeSuperD X n v) := by
 have hm : X.c.mideleg &&& 2 &&& 546 = X.c.mideleg &&& 2 := sub_and _ (by decide)
 have hd : X.c.mideleg &&& 2730 = X.c.mideleg := sub_trans h.mid (by decide)
 have m1 := sub_mix (k := 786722) v h.mst (by decide)
 have m2 := sub_mix (k := X.c.mideleg) v h.mie hd
 have m3 := sub_mix (k := X.c.mideleg &&& 2) v h.mip hm
 unfold writeSuperD
 refine XInv.ite ?_ ?_
 . exact { h with ok := { h.ok with mstatus := Nat.lt_of_le_of_lt (sub_le m1) (by decide), mpp := mix_mpp _ _ h.ok.mpp }, mst := m1, mpv := fun q => by show (wout X.c.mstatus 786722 ||| v &&& 786722).testBit 17 = false; rw [Nat.testBit_or, wout_tb, Nat.testBit_and, h.mpv q]; simp [tb17] }
 refine XInv.ite ?_ ?_
 . exact { h with ok := { h.ok with mie := Nat.lt_of_le_of_lt (sub_le m2) (by decide) }, mie := m2 }
 refine XInv.ite ?_ ?_
 . exact { h with ok := { h.ok with stvec := wout_lt _ _ hv }, stv := wout_2 _ }
 refine XInv.ite ?_ ?_
 . exact { h with ok := { h.ok with scen := and_lt8 v } }
 refine XInv.ite ?_ ?_
 . exact { h with ok := { h.ok with sscratch := hv } }
 refine XInv.ite ?_ ?_
 . exact { h with ok := { h.ok with sepc := wout_lt _ _ hv }, sep := wout_ev _ 1 (by decide) }
 refine XInv.ite ?_ ?_
 . exact { h with ok := { h.ok with scause := hv } }
 refine XInv.ite ?_ ?_
 . exact { h with ok := { h.ok with stval := hv } }
 refine XInv.ite ?_ ?_
 . exact { h with ok := { h.ok with mip := sub_le m3 }, mip := m3 }
 refine XInv.ite ?_ ?_
 . exact { h with ok := { h.ok with satp := hv } }
 exact h
theorem and_lt32 (v m : Nat) (hm : m < 4294967296) : v &&& m < 4294967296 := Nat.lt_of_le_of_lt Nat.and_le_right hm
theorem mac_inv {X : XS} (h : XInv X) (h3 : X.mode = 3) (n : Int) (v : Nat) (hv : v < 4294967296) : XInv (writeMachD X n v) := by
 have m1 := stw_sub v h.mst
 unfold writeMachD
 refine XInv.ite ?_ ?_
 . exact { h with ok := { h.ok with mstatus := Nat.lt_of_le_of_lt (sub_le m1) (by decide), mpp := stw_mpp _ _ h.ok.mpp }, mst := m1, mpv := fun q => absurd h3 q }
 refine XInv.ite ?_ ?_
 . exact { h with ok := { h.ok with medeleg := and_lt32 _ _ (by decide) }, med := sub_and _ (by decide) }
 refine XInv.ite ?_ ?_
 . exact { h with ok := { h.ok with mideleg := and_lt32 _ _ (by decide) }, mid := sub_and _ (by decide) }
 refine XInv.ite ?_ ?_
 . exact { h with ok := { h.ok with mie := and_lt32 _ _ (by decide) }, mie := sub_and _ (by decide) }
 refine XInv.ite ?_ ?_
 . exact { h with ok := { h.ok with mtvec := wout_lt _ _ hv }, mtv := wout_2 _ }
 refine XInv.ite ?_ ?_
 . exact { h with ok := { h.ok with mcen := and_lt8 v } }
 refine XInv.ite ?_ ?_
 . exact { h with ok := { h.ok with minh := Nat.lt_of_le_of_lt (Nat.and_le_right (n := v) (m := 5)) (by decide) }, inh := sub_and _ (by decide) }
 refine XInv.ite ?_ ?_
 . exact { h with ok := { h.ok with mscratch := hv } }
 refine XInv.ite ?_ ?_
 . exact { h with ok := { h.ok with mepc := wout_lt _ _ hv }, mep := wout_ev _ 1 (by decide) }
 refine XInv.ite ?_ ?_
 . exact { h with ok := { h.ok with mcause := hv } }
 refine XInv.ite ?_ ?_
 . exact { h with ok := { h.ok with mtval := hv } }
 refine XInv.ite ?_ ?_
 . exact { h with ok := { h.ok with mip := Nat.and_le_right }, mip := sub_and _ (by decide) }
 exact h
theorem con_inv {X : XS} (h : XInv X) (n : Int) (v : Nat) (hv : v < 4294967296) : XInv (writeCounterD X n v) := by
 unfold writeCounterD
 refine XInv.ite ?_ ?_
 . exact { h with ok := { h.ok with cyc := hv } }
 refine XInv.ite ?_ ?_
 . exact { h with ok := { h.ok with cych := hv } }
 refine XInv.ite ?_ ?_
 . exact { h with ok := { h.ok with ret := hv } }
 refine XInv.ite ?_ ?_
 . exact { h with ok := { h.ok with reth := hv } }
 exact h
theorem wcs_inv {X : XS} (h : XInv X) (n : Int) (h3 : 768 <= n /\ n <= 1023 -> X.mode = 3) (v : Nat) (hv : v < 4294967296) : XInv (wcsX X n v) := by
 unfold wcsX
 refine XInv.ite ?_ ?_
 . exact sup_inv h n v hv
 split
 . next q => exact mac_inv h (h3 q) n v hv
 exact con_inv h n v hv
theorem may_mode {X : XS} (h : XInv X) {i : NI} (hm : mayB X i = true) (q : 768 <= i.im /\ i.im <= 1023) : X.mode = 3 := by
 unfold mayB mayT at hm
 have hd : ¬ X.mode < i.im.toNat / 256 % 4 := by
  intro e
  rw [decide_eq_true e] at hm
  cases hr : (rcsD X i.im).2 <;> rw [hr] at hm <;> simp at hm
 have := h.ok.mode
 omega
theorem ccr_inv {X : XS} (h : XInv X) (i : NI) (hi : NIOk i) (hy : mayB X i = true) : XInv (ccrX X i) := by
 have hr := rcs_lt X h.ok i.im
 have ho : opdD X i < 4294967296 := by
  unfold opdD; split
  . exact h.ok.xr _
  . have := hi.rs1; omega
 have h1 := h.setR i.rd _ hr
 have hm := h.ok.mip
 unfold ccrX
 split
 . refine wcs_inv h1 _ (fun q => ?_) _ (chg_lt _ _ _ ?_ ho)
   . have := may_mode h hy q
     unfold setXR; split <;> exact this
   split
   . omega
   . exact hr
 . exact h1
theorem mpp3 (s : Nat) (h : s &&& 6144 = 6144) : s / 2048 % 4 = 3 := by rw [<- and6144, h]
theorem mret_17 (s : Nat) (h : ¬ s &&& 6144 = 6144) : (xmretD s).testBit 17 = false := by
 unfold xmretD xmretA
 rw [if_neg h, Nat.testBit_or, wout_tb]
 unfold xsetD
 cases decide (wout s 131072 &&& 128 = 0) <;> simp [wout_tb, tb17]
theorem sret_17 (s : Nat) : (xsretD s).testBit 17 = false := by
 unfold xsretD
 rw [Nat.testBit_or, wout_tb]
 simp [tb17]
theorem str_17 (s m : Nat) (h : s.testBit 17 = false) : (xstrD s m).testBit 17 = false := by
 unfold xstrD xsetD
 cases decide (s &&& 2 = 0) <;> cases decide (m = 1) <;> simp [wout_tb, h, tb17]
theorem hdl_ev (t c : Nat) : xhdlD t c % 2 = 0 := by
 have := wout_ev t 3 (by decide)
 unfold xhdlD; split <;> omega
theorem prv_inv {X : XS} (h : XInv X) (op : Int) : XInv (prvX X op) := by
 have m1 := mret_sub h.mst
 have m2 := sret_sub h.mst
 have hp := h.ok.mpp
 unfold prvX
 split
 . refine XInv.unres (X := { X with mode := X.c.mstatus / 2048 % 4, c := { X.c with mstatus := xmretD X.c.mstatus } }) ?_
   exact { h with ok := { h.ok with mode := (by show X.c.mstatus / 2048 % 4 = 0 \/ X.c.mstatus / 2048 % 4 = 1 \/ X.c.mstatus / 2048 % 4 = 3; omega), mstatus := Nat.lt_of_le_of_lt (sub_le m1) (by decide), mpp := mret_mpp _ }, mst := m1, mpv := fun q => mret_17 _ (by intro e; exact q (by show X.c.mstatus / 2048 % 4 = 3; exact mpp3 _ e)) }
 split
 . refine XInv.unres (X := { X with mode := X.c.mstatus / 256 % 2, c := { X.c with mstatus := xsretD X.c.mstatus } }) ?_
   exact { h with ok := { h.ok with mode := (by show X.c.mstatus / 256 % 2 = 0 \/ X.c.mstatus / 256 % 2 = 1 \/ X.c.mstatus / 256 % 2 = 3; omega), mstatus := Nat.lt_of_le_of_lt (sub_le m2) (by decide), mpp := sret_mpp _ h.ok.mpp }, mst := m2, mpv := fun _ => sret_17 _ }
 split
 . exact { h with ok := { h.ok with } }
 exact h
theorem hdl_lt (t c : Nat) (ht : t < 4294967296) : xhdlD t c < 4294967296 := by
 unfold xhdlD; split
 . exact Nat.mod_lt _ (by decide)
 . exact wout_lt _ _ ht
theorem ts_inv {X : XS} (h : XInv X) (hq : X.mode ≠ 3) (c t : Nat) (hc : c < 4294967296) (ht : t < 4294967296) : XInv (tsX X c t) := by
 have m1 := str_sub X.mode h.mst
 exact { h with ok := { h.ok with mode := .inr (.inl rfl), pc := hdl_lt _ _ h.ok.stvec, sepc := h.ok.pc, scause := hc, stval := ht, mstatus := Nat.lt_of_le_of_lt (sub_le m1) (by decide), mpp := str_mpp _ _ h.ok.mpp }, mst := m1, pc2 := hdl_ev _ _, sep := h.pc2, mpv := fun _ => str_17 _ _ (h.mpv hq) }
theorem tm_inv {X : XS} (h : XInv X) (c t : Nat) (hc : c < 4294967296) (ht : t < 4294967296) : XInv (tmX X c t) := by
 have m1 := mtr_sub X.mode h.mst
 exact { h with ok := { h.ok with mode := .inr (.inr rfl), pc := hdl_lt _ _ h.ok.mtvec, mepc := h.ok.pc, mcause := hc, mtval := ht, mstatus := Nat.lt_of_le_of_lt (sub_le m1) (by decide), mpp := mtr_mpp _ _ h.ok.mode }, mst := m1, pc2 := hdl_ev _ _, mep := h.pc2, mpv := fun q => absurd rfl q }
theorem dlg_mode {X : XS} {d c : Nat} (h : dlgB X d c = true) : X.mode ≠ 3 := by
 unfold dlgB at h; simp at h; exact h.1
theorem ti_inv {X : XS} (h : XInv X) (c : Nat) (hc : c < 32) : XInv (tiX X c) := by
 unfold tiX; split
 . next q => exact ts_inv h (dlg_mode q) _ _ (by omega) (by decide)
 . exact tm_inv h _ _ (by omega) (by decide)
theorem te_inv {X : XS} (h : XInv X) (c t : Nat) (hc : c < 32) (ht : t < 4294967296) : XInv (teX X c t) := by
 unfold teX; split
 . next q => exact ts_inv h (dlg_mode q) _ _ (by omega) ht
 . exact tm_inv h _ _ (by omega) ht
theorem cnt_inv {X : XS} (h : XInv X) (r : Bool) (k : Nat) : XInv (cntX X r k) := by
 have l (a n : Nat) : incL a n < 4294967296 := Nat.mod_lt _ (by decide)
 have l2 (a b n : Nat) : incH a b n < 4294967296 := Nat.mod_lt _ (by decide)
 unfold cntX cntB
 exact { h with ok := { h.ok with cyc := (by dsimp only; split; exact l _ _; exact h.ok.cyc), cych := (by dsimp only; split; exact l2 _ _ _; exact h.ok.cych), ret := (by dsimp only; split; exact l _ _; exact h.ok.ret), reth := (by dsimp only; split; exact l2 _ _ _; exact h.ok.reth) } }
theorem npc_lt {X : XS} (h : XInv X) (i : NI) : npcD X i < 4294967296 := by
 unfold npcD
 split
 . exact word_lt _
 split
 . exact Nat.lt_of_le_of_lt (Nat.sub_le _ _) (word_lt _)
 split
 . exact h.ok.mepc
 split
 . exact h.ok.sepc
 exact Nat.mod_lt _ (by decide)
theorem npc_ev {X : XS} (h : XInv X) (i : NI) (hi : NIOk i) (he : i.op = 3 \/ (5 <= i.op /\ i.op <= 10) -> i.im % 2 = 0) : npcD X i % 2 = 0 := by
 have h1 := h.pc2
 have h2 := hi.ln
 unfold npcD
 split
 . next q =>
   have := he (by omega)
   unfold wordN; omega
 split
 . omega
 split
 . exact h.mep
 split
 . exact h.sep
 unfold behD; omega
theorem rsv_lt {X : XS} (h : XInv X) (i : NI) : rsvD X i < 4294967296 := by
 unfold rsvD
 split
 . exact word_lt _
 split
 . exact word_lt _
 split
 . exact Nat.mod_lt _ (by decide)
 split
 . exact alu_all _ _ _ (h.ok.xr _) (word_lt _)
 . exact alu_all _ _ _ (h.ok.xr _) (h.ok.xr _)
theorem fau_in (f k : Int) : 0 <= xfauD f k /\ xfauD f k < 16 := by
 unfold xfauD; repeat' split
 all_goals omega
theorem ld_inv {X : XS} (h : XInv X) (i : NI) : XInv (ldX X i).2 /\ (ldX X i).1.2 < 4294967296 /\ -1 <= (ldX X i).1.1 /\ (ldX X i).1.1 < 16 := by
 have hv : vaD X i < 4294967296 := word_lt _
 have hn := nD_le i.op
 have h1 := reach_ok h.ok.b (xC X) (vaD X i) (nD i.op) 1
 have h2 := reach_sp X.b (xC X) (vaD X i) (nD i.op) 1 hv hn.1
 unfold ldX
 generalize reachD X.b (xC X) (vaD X i) (nD i.op) 1 = S at h1 h2
 unfold ldF
 split
 . next hf =>
   refine ⟨(h.withB (load_ok h1 _)).setR _ _ ?_, zq525, zq525, zq525⟩
   have h3 := load_lt h1 S.1 (h2.n1 hf)
   rw [h2.sum hf] at h3
   have h4 : 256 ^ nD i.op <= 256 ^ 4 := Nat.pow_le_pow_right (by decide) hn.2
   unfold ldvD; split
   . exact word_lt _
   . exact Nat.lt_of_lt_of_le h3 h4
 . have := fau_in S.1.fault 1
   exact zq332
theorem st_inv {X : XS} (h : XInv X) (i : NI) : XInv (stX X i).2 /\ (stX X i).1.2 < 4294967296 /\ -1 <= (stX X i).1.1 /\ (stX X i).1.1 < 16 := by
 have hv : vaD X i < 4294967296 := word_lt _
 have hn := nD_le i.op
 have h1 := reach_ok h.ok.b (xC X) (vaD X i) (nD i.op) 2
 have h2 := reach_sp X.b (xC X) (vaD X i) (nD i.op) 2 hv hn.1
 unfold stX
 generalize reachD X.b (xC X) (vaD X i) (nD i.op) 2 = S at h1 h2
 unfold stF
 split
 . next hf => exact ⟨h.withB (store_ok h1 _ _ (h.ok.xr _)), zq525, zq525, zq525⟩
 . have := fau_in S.1.fault 2
   exact zq332
theorem atG_inv {X : XS} (h : XInv X) (i : NI) (pa : Nat) (hp : pa < 17184063488) : XInv (atG X i pa) := by
 have hr := rd4_lt X.b (pa - 2147483648)
 unfold atG
 split
 . have h1 := h.setR i.rd _ hr
   exact { h1 with ok := { h1.ok with resv := hp } }
 split
 . unfold scX
   refine XInv.unres (XInv.setR ?_ _ _ ?_)
   . cases scB X pa
     . exact h.ram (stN_length _ _ _ _)
     . exact h
   . have hb : ∀ b : Bool, b.toNat < 4294967296 := by decide
     exact hb _
 . exact (h.ram (stN_length _ _ _ _)).setR _ _ hr
theorem at_inv {X : XS} (h : XInv X) (i : NI) : XInv (atX X i).2 /\ (atX X i).1.2 < 4294967296 /\ -1 <= (atX X i).1.1 /\ (atX X i).1.1 < 16 := by
 have hv := h.ok.xr i.rs1
 have h1 := wordAt_ok h.ok.b (xC X) (X.x.getD i.rs1 0) (kD i.op)
 have h2 := wordAt_lt X.b (xC X) (X.x.getD i.rs1 0) (kD i.op) hv
 unfold atX
 generalize wordAtD X.b (xC X) (X.x.getD i.rs1 0) (kD i.op) = t at h1 h2
 split
 . unfold atF
   split
   . exact ⟨atG_inv (h.withB h1) i _ h2.1, zq525, zq525, zq525⟩
   . have := fau_in t.1.2 (kD i.op)
     exact ⟨h.withB h1, hv, by dsimp only; omega, by dsimp only; omega⟩
 . exact ⟨h, hv, by dsimp only; unfold xalgD; split <;> decide, by dsimp only; unfold xalgD; split <;> decide⟩
theorem cro_inv {X : XS} (h : XInv X) (i : NI) (hi : NIOk i) (v : Nat) (hv : v < 4294967296) : XInv (croX X i v).2 /\ (croX X i v).1.2 < 4294967296 /\ -1 <= (croX X i v).1.1 /\ (croX X i v).1.1 < 16 := by
 unfold croX
 split
 . exact ⟨h.setR _ _ (rsv_lt h i), zq525, zq525, zq525⟩
 split
 . exact ⟨h, zq525, zq525, zq525⟩
 split
 . exact ld_inv h i
 split
 . exact st_inv h i
 split
 . exact at_inv h i
 split
 . have := h.ok.mode; exact ⟨h, zq525, by dsimp only; omega, by dsimp only; omega⟩
 split
 . exact ⟨h, h.ok.pc, zq525, zq525⟩
 split
 . next q => exact ⟨ccr_inv h i hi q.2, zq525, zq525, zq525⟩
 split
 . exact ⟨prv_inv h _, zq525, zq525, zq525⟩
 exact ⟨h, hv, zq525, zq525⟩
theorem ins_inv {X : XS} (h : XInv X) : XInv (insX X).2 /\ (insX X).1.2.2 < 4294967296 /\ -1 <= (insX X).1.2.1 /\ (insX X).1.2.1 < 16 := by
 have h1 := fetch_ok h.ok.b (xC X) X.pc
 have h2 := fetch_lt X.b (xC X) X.pc h.ok.pc
 unfold insX
 generalize fetchD X.b (xC X) X.pc = T at h1 h2
 split
 . split
   . next hd =>
     have hN := (decode_ni (T.1.w : Int) hd).1
     have h3 := cro_inv (h.withB h1) _ hN T.1.w h2.1
     unfold insR
     split
     . exact ⟨h3.1.pc' (npc_lt (h.withB h1) _) (npc_ev (h.withB h1) _ hN (decode_ev _ hd)), h3.2⟩
     . exact h3
   . exact ⟨h.withB h1, h2.1, zq525, zq525⟩
 . have := fau_in T.1.f 0
   exact ⟨h.withB h1, h2.2.1, by dsimp only; omega, by dsimp only; omega⟩
theorem bit01 (a k : Nat) : a / 2 ^ k % 2 = (a.testBit k).toNat := by
 rw [Nat.testBit_eq_decide_div_mod_eq]
 rcases Nat.mod_two_eq_zero_or_one (a / 2 ^ k) with h | h <;> simp [h]
theorem bit_woutN (a m k : Nat) : wout a m / 2 ^ k % 2 = if m / 2 ^ k % 2 = 1 then 0 else a / 2 ^ k % 2 := by
 rw [bit01, bit01 m, bit01 a]
 simp only [wout_tb]
 exact zq333
theorem bit_orN (a m k : Nat) : (a ||| m) / 2 ^ k % 2 = if m / 2 ^ k % 2 = 1 then 1 else a / 2 ^ k % 2 := by
 rw [bit01, bit01 m, bit01 a]
 simp only [Nat.testBit_or]
 exact zq333
theorem bit_andN (a m k : Nat) : (a &&& m) / 2 ^ k % 2 = if m / 2 ^ k % 2 = 1 then a / 2 ^ k % 2 else 0 := by
 rw [bit01, bit01 m, bit01 a]
 simp only [Nat.testBit_and]
 exact zq333
theorem ite_ex {p : Prop} [Decidable p] {Y A B : XS} (h1 : ∃ C, A = { Y with c := C }) (h2 : ∃ C, B = { Y with c := C }) : ∃ C, (if p then A else B) = { Y with c := C } := by split <;> assumption
theorem wcs_ex (Y : XS) (n : Int) (v : Nat) : ∃ C, wcsX Y n v = { Y with c := C } := by
 unfold wcsX writeSuperD writeMachD writeCounterD
 repeat' (first | exact ⟨_, rfl⟩ | refine ite_ex ?_ ?_)
theorem wcs_keep (Y : XS) (n : Int) (v : Nat) : wcsX Y n v = { Y with c := (wcsX Y n v).c } := by
 obtain ⟨C, h⟩ := wcs_ex Y n v
 rw [h]
section
attribute [local go_sem ↓] Go.wp_at_zero Go.wp_at_succ
theorem XAt.waitS {w mb rb X} (h : XAt w mb rb X) : XAt (w.setCell ⟨mb, 35, none⟩ (.bool false)) mb rb { X with waits := false } := h.set 35 _ rfl rfl (by omega)
def wakX (X : XS) : XS := { X with waits := false }
def actE (Y : (NI × (Int × Nat)) × XS) : (Int × Int × Int) × XS :=
 if Y.1.2.1 = -1 then ((0, 0, cwrD Y.1.1), Y.2) else ((1, Y.1.2.1, 0), teX Y.2 Y.1.2.1.toNat Y.1.2.2)
def actX (X : XS) : (Int × Int × Int) × XS :=
 if (X.waits && decide (askD X = 0)) = true then ((3, 0, 0), X)
 else if intD (wakX X) = -1 then actE (insX (wakX X))
 else ((2, intD (wakX X), 0), tiX (wakX X) (intD (wakX X)).toNat)
def didV (k c : Int) : Value := .agg #[.int .i64 k, .int .i64 c]
theorem mu_in (a : Nat) : -1 <= xmuD a /\ xmuD a < 12 := by
 unfold xmuD; repeat' split
 all_goals omega
theorem int_in (X : XS) : -1 <= intD X /\ intD X < 12 := by
 have h1 := mu_in (wout (askD X) X.c.mideleg)
 have h2 := mu_in (askD X &&& X.c.mideleg)
 unfold intD intB
 split
 . exact h1
 split
 . exact h2
 . omega
theorem wak_inv {X : XS} (h : XInv X) : XInv (wakX X) := { h with ok := { h.ok with } }
theorem act_inv {X : XS} (h : XInv X) : XInv (actX X).2 /\ -1 <= (actX X).1.2.1 /\ (actX X).1.2.1 < 16 := by
 have hw := wak_inv h
 have hi := int_in (wakX X)
 have h1 := ins_inv hw
 unfold actX
 split
 . exact ⟨h, zq525, zq525⟩
 split
 . unfold actE
   split
   . exact ⟨h1.1, zq525, zq525⟩
   . exact ⟨te_inv h1.1 _ _ (by omega) h1.2.1, h1.2.2⟩
 . refine ⟨ti_inv hw _ (by omega), ?_, ?_⟩ <;> dsimp only <;> omega
theorem x_act_i (mb rb : Nat) (X : XS) (hI : XInv X) (h1 : X.waits = true) (h2 : askD X = 0) (w) (hw : Hid (XAt w mb rb X)) :
 CX 37 #[.pointer (some ⟨mb, 0, none⟩)] (.tuple #[didV 3 0, .int .i64 0]) [mb, rb] mb rb X w := by
 have hX := hI.ok
 have hlt := hw.out.lt
 have hrlt := hw.out.rlt
 have hlt' : ¬ mb = w.heap.size := by omega
 have hwa : Hid (XAt (w.alloc (.cells #[.int .i64 0, .int .i64 0] 45)) mb rb X) := zq10
 have c35 := hw.out.c35
 have hfr := hw.out.fro
 have AS := hide1 (fun W h => x_asked mb rb X hX W h)
 simp only [h2, h1] at AS c35
 unfold didV
 clear hX hI hw h1 h2
 go_enter func37, ntmps37
 go_wp2_with fail
 refine (AS.out _ hwa).mono ?_
 rintro o w1 ⟨rfl, hk1⟩
 obtain ⟨_, _, _, _, _, _, _, _, _, _, _, _⟩ : Zc2 w1 w.heap.size 0 0 := zq167
 have hx1 := hwa.out.kept hk1
 go_wp2_with fail
 refine bodyPost_ret (v := .tuple #[.agg #[.int .i64 3, .int .i64 0], .int .i64 0]) zq526 rfl ⟨rfl, ?_, ?_⟩
 . repeat (first | (with_reducible exact hx1) | (with_reducible refine XAt.alloc ?_ _) | (with_reducible refine XAt.drew ?_) | (with_reducible refine XAt.other _ _ _ ?_ (by omega) (by omega)))
 . exact zq310
theorem set_other (w : World) (b k c j : Nat) (v : Value) (h : ¬ b = c) : (w.setCell ⟨c, k, none⟩ v).cell? ⟨b, j, none⟩ = w.cell? ⟨b, j, none⟩ :=
 World.cell?_setCell_other _ _ _ _ (by intro e; exact h (congrArg Addr.block e).symm)
theorem x_act_t0 (mb rb : Nat) (X : XS) (hI : XInv X) (h1 : X.waits = false) (hc : ¬ intD (wakX X) = -1) (w) (hw : Hid (XAt w mb rb X)) :
 CX 37 #[.pointer (some ⟨mb, 0, none⟩)] (.tuple #[didV 2 (intD (wakX X)), .int .i64 0]) [mb, rb] mb rb (tiX (wakX X) (intD (wakX X)).toNat) w := by
 have hX := hI.ok
 have hlt := hw.out.lt
 have hrlt := hw.out.rlt
 have hlt' : ¬ mb = w.heap.size := by omega
 have hwa : Hid (XAt (w.alloc (.cells #[.int .i64 0, .int .i64 0] 45)) mb rb X) := zq10
 have c35 := hw.out.c35
 have hfr := hw.out.fro
 have hxs := hide1 (hw.out.waitS.alloc (.cells #[.int .i64 0, .int .i64 0] 45))
 simp only [h1] at c35
 have hV := wak_inv hI
 have IT := hide1 (fun W h => x_interrupt mb rb (wakX X) hV.ok W h)
 have hwk : { X with waits := false } = wakX X := rfl
 have hin := int_in (wakX X)
 obtain ⟨n, hn⟩ : ∃ n : Nat, intD (wakX X) = n := ⟨(intD (wakX X)).toNat, by omega⟩
 have TI := hide1 (fun W h => x_trapInterrupt mb rb (wakX X) hV.ok n (by omega) W h)
 simp only [hn, Int.toNat_natCast] at IT hc |-
 have qc : ((n : Int) == -1) = false := zq120
 unfold didV
 try simp only [hwk] at hxs
 obtain ⟨V, hVe⟩ := zn1 (wakX X)
 simp only [<- hVe] at *
 clear hwk hVe hV hc hX hI
 clear h1
 go_enter func37, ntmps37
 go_wp2_with fail
 refine (IT.out _ hxs).mono ?_
 rintro o w1 ⟨rfl, hk1⟩
 have hx1 := hide1 (hxs.out.kept hk1)
 obtain ⟨_, _, _, _, _, _, _, _, _, _, _, _⟩ : Zc2 w1 w.heap.size 0 0 := zq178
 go_wp2_with fail
 refine (TI.out _ hx1).mono ?_
 rintro o w2 ⟨rfl, hx2, hk2⟩
 obtain ⟨_, _, _, _, _, _, _, _, _, _, _, _⟩ : Zc2 w2 w.heap.size 0 0 := zq179
 go_wp2_with fail
 refine bodyPost_ret (v := .tuple #[.agg #[.int .i64 2, .int .i64 n], .int .i64 0]) zq526 rfl ⟨rfl, ?_, ?_⟩
 . exact zq334
 . exact zq308
theorem x_act_e0 (mb rb : Nat) (X : XS) (hI : XInv X) (h1 : X.waits = false) (hc : intD (wakX X) = -1) (he : ¬ (insX (wakX X)).1.2.1 = -1) (w) (hw : Hid (XAt w mb rb X)) :
 CX 37 #[.pointer (some ⟨mb, 0, none⟩)] (.tuple #[didV 1 ((insX (wakX X)).1.2.1), .int .i64 0]) [mb, rb] mb rb (teX (insX (wakX X)).2 (insX (wakX X)).1.2.1.toNat (insX (wakX X)).1.2.2) w := by
 have hX := hI.ok
 have hlt := hw.out.lt
 have hrlt := hw.out.rlt
 have hlt' : ¬ mb = w.heap.size := by omega
 have hwa : Hid (XAt (w.alloc (.cells #[.int .i64 0, .int .i64 0] 45)) mb rb X) := zq10
 have c35 := hw.out.c35
 have hfr := hw.out.fro
 have hxs := hide1 (hw.out.waitS.alloc (.cells #[.int .i64 0, .int .i64 0] 45))
 simp only [h1] at c35
 have hV := wak_inv hI
 have IT := hide1 (fun W h => x_interrupt mb rb (wakX X) hV.ok W h)
 have hwk : { X with waits := false } = wakX X := rfl
 have hin := ins_inv hV
 have IN := hide1 (fun W h => x_instruct mb rb (wakX X) hV.ok W h)
 obtain ⟨⟨⟨N, c, t⟩, Y⟩, hR⟩ : ∃ R, R = insX (wakX X) := ⟨_, rfl⟩
 simp only [<- hR] at IN hin he |-
 try dsimp only at IN hin he |-
 simp only [hc] at IT
 obtain ⟨n, hn⟩ : ∃ n : Nat, c = n := ⟨c.toNat, by omega⟩
 subst hn
 have TE := hide1 (fun W h => x_trapException mb rb Y hin.1.ok n t (by omega) W h)
 simp only [Int.toNat_natCast] at |-
 have qc : ((n : Int) == -1) = false := zq120
 obtain ⟨op, rd, rs1, rs2, im, ln⟩ := N
 unfold niV at *
 unfold excA at IN
 try dsimp only at *
 clear hR hin
 unfold didV
 try simp only [hwk] at hxs
 obtain ⟨V, hVe⟩ := zn1 (wakX X)
 simp only [<- hVe] at *
 clear hwk hVe hV hc hX hI
 clear h1
 go_enter func37, ntmps37
 go_wp2_with fail
 refine (IT.out _ hxs).mono ?_
 rintro o w1 ⟨rfl, hk1⟩
 have hx1 := hide1 (hxs.out.kept hk1)
 obtain ⟨_, _, _, _, _, _, _, _, _, _, _, _⟩ : Zc2 w1 w.heap.size 0 0 := zq178
 go_wp2_with fail
 refine (IN.out _ hx1).mono ?_
 rintro o w2 ⟨rfl, hx2, hk2⟩
 obtain ⟨_, _, _, _, _, _, _, _, _, _, _, _⟩ : Zc2 w2 w.heap.size 0 0 := zq179
 have hx3 := hide1 (((hx2.alloc (.cells #[.int .i64 op, .int .i64 rd, .int .i64 rs1, .int .i64 rs2, .int .i64 im, .int .i64 ln] 60)).alloc (.cells #[.int .i64 n, .int .i64 t] 118)).alloc (.cells #[.int .i64 n, .int .i64 t] 118))
 go_wp2_with (go_at_call 82; refine (x_none _ _ _).mono ?_; rintro o wn ⟨rfl, rfl⟩)
 refine (TE.out _ hx3).mono ?_
 rintro o w3 ⟨rfl, hx4, hk3⟩
 obtain ⟨_, _, _, _, _, _, _, _, _, _, _, _⟩ : Zc2 w3 w.heap.size 0 0 := zq180
 obtain ⟨ic0w3, ic1w3, ic2w3, ic3w3, ic4w3, ic5w3, ifw3, izw3, izw31, inw31, izw32, inw32, izw33, inw33, izw34, inw34⟩ : Zc6 w3 w2.heap.size op rd rs1 rs2 im ln := zq181
 obtain ⟨_, _, _, _, _, _, _, _, _, _, _, _⟩ : Zc2 w3 (w2.heap.size + 1) n t := zq182
 go_wp2_with fail
 refine bodyPost_ret (v := .tuple #[.agg #[.int .i64 1, .int .i64 n], .int .i64 0]) zq526 rfl ⟨rfl, ?_, ?_⟩
 . exact zq335
 . exact zq278
theorem x_act_r0 (mb rb : Nat) (X : XS) (hI : XInv X) (h1 : X.waits = false) (hc : intD (wakX X) = -1) (he : (insX (wakX X)).1.2.1 = -1) (w) (hw : Hid (XAt w mb rb X)) :
 CX 37 #[.pointer (some ⟨mb, 0, none⟩)] (.tuple #[didV 0 0, .int .i64 (cwrD (insX (wakX X)).1.1)]) [mb, rb] mb rb ((insX (wakX X)).2) w := by
 have hX := hI.ok
 have hlt := hw.out.lt
 have hrlt := hw.out.rlt
 have hlt' : ¬ mb = w.heap.size := by omega
 have hwa : Hid (XAt (w.alloc (.cells #[.int .i64 0, .int .i64 0] 45)) mb rb X) := zq10
 have c35 := hw.out.c35
 have hfr := hw.out.fro
 have hxs := hide1 (hw.out.waitS.alloc (.cells #[.int .i64 0, .int .i64 0] 45))
 simp only [h1] at c35
 have hV := wak_inv hI
 have IT := hide1 (fun W h => x_interrupt mb rb (wakX X) hV.ok W h)
 have hwk : { X with waits := false } = wakX X := rfl
 have hin := ins_inv hV
 have IN := hide1 (fun W h => x_instruct mb rb (wakX X) hV.ok W h)
 obtain ⟨⟨⟨N, c, t⟩, Y⟩, hR⟩ : ∃ R, R = insX (wakX X) := ⟨_, rfl⟩
 simp only [<- hR] at IN hin he |-
 try dsimp only at IN hin he |-
 simp only [hc] at IT
 subst he
 have CW := hide1 (fun W => x_countersWritten N W)
 obtain ⟨z, hz⟩ := zn1 (cwrD N)
 simp only [<- hz] at CW |-
 clear hz
 obtain ⟨op, rd, rs1, rs2, im, ln⟩ := N
 unfold niV at *
 unfold excA at IN
 try dsimp only at *
 clear hR hin
 unfold didV
 try simp only [hwk] at hxs
 obtain ⟨V, hVe⟩ := zn1 (wakX X)
 simp only [<- hVe] at *
 clear hwk hVe hV hc hX hI
 clear h1
 go_enter func37, ntmps37
 go_wp2_with fail
 refine (IT.out _ hxs).mono ?_
 rintro o w1 ⟨rfl, hk1⟩
 have hx1 := hide1 (hxs.out.kept hk1)
 obtain ⟨_, _, _, _, _, _, _, _, _, _, _, _⟩ : Zc2 w1 w.heap.size 0 0 := zq178
 go_wp2_with fail
 refine (IN.out _ hx1).mono ?_
 rintro o w2 ⟨rfl, hx2, hk2⟩
 obtain ⟨_, _, _, _, _, _, _, _, _, _, _, _⟩ : Zc2 w2 w.heap.size 0 0 := zq179
 have hx3 := hide1 (((hx2.alloc (.cells #[.int .i64 op, .int .i64 rd, .int .i64 rs1, .int .i64 rs2, .int .i64 im, .int .i64 ln] 60)).alloc (.cells #[.int .i64 (-1), .int .i64 t] 118)).alloc (.cells #[.int .i64 (-1), .int .i64 t] 118))
 go_wp2_with (go_at_call 82; refine (x_none _ _ _).mono ?_; rintro o wn ⟨rfl, rfl⟩)
 refine (CW.out _).mono ?_
 rintro o w3 ⟨rfl, hk3⟩
 have hx4 := hx3.out.kept hk3
 obtain ⟨_, _, _, _, _, _, _, _, _, _, _, _⟩ : Zc2 w3 w.heap.size 0 0 := zq180
 obtain ⟨ic0w3, ic1w3, ic2w3, ic3w3, ic4w3, ic5w3, ifw3, izw3, izw31, inw31, izw32, inw32, izw33, inw33, izw34, inw34⟩ : Zc6 w3 w2.heap.size op rd rs1 rs2 im ln := zq181
 obtain ⟨_, _, _, _, _, _, _, _, _, _, _, _⟩ : Zc2 w3 (w2.heap.size + 1) (-1) t := zq182
 go_wp2_with fail
 refine bodyPost_ret (v := .tuple #[.agg #[.int .i64 0, .int .i64 0], .int .i64 z]) zq526 rfl ⟨rfl, ?_, ?_⟩
 . exact zq335
 . exact zq278
theorem x_act_t1 (mb rb : Nat) (X : XS) (hI : XInv X) (h1 : X.waits = true) (h2 : ¬ askD X = 0) (hc : ¬ intD (wakX X) = -1) (w) (hw : Hid (XAt w mb rb X)) :
 CX 37 #[.pointer (some ⟨mb, 0, none⟩)] (.tuple #[didV 2 (intD (wakX X)), .int .i64 0]) [mb, rb] mb rb (tiX (wakX X) (intD (wakX X)).toNat) w := by
 have hX := hI.ok
 have hlt := hw.out.lt
 have hrlt := hw.out.rlt
 have hlt' : ¬ mb = w.heap.size := by omega
 have hwa : Hid (XAt (w.alloc (.cells #[.int .i64 0, .int .i64 0] 45)) mb rb X) := zq10
 have c35 := hw.out.c35
 have hfr := hw.out.fro
 have AS := hide1 (fun W h => x_asked mb rb X hX W h)
 obtain ⟨q, hq⟩ := zn1 (askD X)
 simp only [<- hq] at AS h2
 have q0 : ((q : Int) == 0) = false := by simp [h2]
 simp only [h1] at c35
 have hws : Hid (∀ W, XAt W mb rb X -> XAt (W.setCell ⟨mb, 35, none⟩ (.bool false)) mb rb (wakX X)) := fun W h => h.waitS
 have hV := wak_inv hI
 have IT := hide1 (fun W h => x_interrupt mb rb (wakX X) hV.ok W h)
 have hwk : { X with waits := false } = wakX X := rfl
 have hin := int_in (wakX X)
 obtain ⟨n, hn⟩ : ∃ n : Nat, intD (wakX X) = n := ⟨(intD (wakX X)).toNat, by omega⟩
 have TI := hide1 (fun W h => x_trapInterrupt mb rb (wakX X) hV.ok n (by omega) W h)
 simp only [hn, Int.toNat_natCast] at IT hc |-
 have qc : ((n : Int) == -1) = false := zq120
 unfold didV
 skip
 obtain ⟨V, hVe⟩ := zn1 (wakX X)
 simp only [<- hVe] at *
 clear hwk hVe hV hc hX hI
 clear h1 h2 hq
 go_enter func37, ntmps37
 go_wp2_with fail
 refine (AS.out _ hwa).mono ?_
 rintro o w0 ⟨rfl, hk0⟩
 obtain ⟨_, _, _, _, _, _, _, _, _, _, _, _⟩ : Zc2 w0 w.heap.size 0 0 := zq183
 have hx0 := hwa.out.kept hk0
 have c35b := hx0.c35
 have hf0 := hx0.fro
 have hl0 := hx0.lt
 have hxs := hide1 (hws.out _ hx0)
 go_wp2_with fail
 refine (IT.out _ hxs).mono ?_
 rintro o w1 ⟨rfl, hk1⟩
 have hx1 := hide1 (hxs.out.kept hk1)
 obtain ⟨_, _, _, _, _, _, _, _, _, _, _, _⟩ : Zc2 w1 w.heap.size 0 0 := zq178
 go_wp2_with fail
 refine (TI.out _ hx1).mono ?_
 rintro o w2 ⟨rfl, hx2, hk2⟩
 obtain ⟨_, _, _, _, _, _, _, _, _, _, _, _⟩ : Zc2 w2 w.heap.size 0 0 := zq179
 go_wp2_with fail
 refine bodyPost_ret (v := .tuple #[.agg #[.int .i64 2, .int .i64 n], .int .i64 0]) zq526 rfl ⟨rfl, ?_, ?_⟩
 . exact zq334
 . repeat (first | (with_reducible exact Kept.refl _ _) | (with_reducible refine Kept.setM ?_ _ _) | (with_reducible refine Kept.setCell ?_ (Or.inr zq491) _) | (with_reducible refine Kept.drew ?_) | (with_reducible refine Kept.drewN ?_ _) | (with_reducible refine Kept.alloc ?_ _) | (with_reducible refine Kept.trans ?_ (hk2.mono (by simp))) | (with_reducible refine Kept.trans ?_ (hk1.mono (by simp))) | (with_reducible refine Kept.trans ?_ (hk0.mono (by simp))))
theorem x_act_e1 (mb rb : Nat) (X : XS) (hI : XInv X) (h1 : X.waits = true) (h2 : ¬ askD X = 0) (hc : intD (wakX X) = -1) (he : ¬ (insX (wakX X)).1.2.1 = -1) (w) (hw : Hid (XAt w mb rb X)) :
 CX 37 #[.pointer (some ⟨mb, 0, none⟩)] (.tuple #[didV 1 ((insX (wakX X)).1.2.1), .int .i64 0]) [mb, rb] mb rb (teX (insX (wakX X)).2 (insX (wakX X)).1.2.1.toNat (insX (wakX X)).1.2.2) w := by
 have hX := hI.ok
 have hlt := hw.out.lt
 have hrlt := hw.out.rlt
 have hlt' : ¬ mb = w.heap.size := by omega
 have hwa : Hid (XAt (w.alloc (.cells #[.int .i64 0, .int .i64 0] 45)) mb rb X) := zq10
 have c35 := hw.out.c35
 have hfr := hw.out.fro
 have AS := hide1 (fun W h => x_asked mb rb X hX W h)
 obtain ⟨q, hq⟩ := zn1 (askD X)
 simp only [<- hq] at AS h2
 have q0 : ((q : Int) == 0) = false := by simp [h2]
 simp only [h1] at c35
 have hws : Hid (∀ W, XAt W mb rb X -> XAt (W.setCell ⟨mb, 35, none⟩ (.bool false)) mb rb (wakX X)) := fun W h => h.waitS
 have hV := wak_inv hI
 have IT := hide1 (fun W h => x_interrupt mb rb (wakX X) hV.ok W h)
 have hwk : { X with waits := false } = wakX X := rfl
 have hin := ins_inv hV
 have IN := hide1 (fun W h => x_instruct mb rb (wakX X) hV.ok W h)
 obtain ⟨⟨⟨N, c, t⟩, Y⟩, hR⟩ : ∃ R, R = insX (wakX X) := ⟨_, rfl⟩
 simp only [<- hR] at IN hin he |-
 try dsimp only at IN hin he |-
 simp only [hc] at IT
 obtain ⟨n, hn⟩ : ∃ n : Nat, c = n := ⟨c.toNat, by omega⟩
 subst hn
 have TE := hide1 (fun W h => x_trapException mb rb Y hin.1.ok n t (by omega) W h)
 simp only [Int.toNat_natCast] at |-
 have qc : ((n : Int) == -1) = false := zq120
 obtain ⟨op, rd, rs1, rs2, im, ln⟩ := N
 unfold niV at *
 unfold excA at IN
 try dsimp only at *
 clear hR hin
 unfold didV
 skip
 obtain ⟨V, hVe⟩ := zn1 (wakX X)
 simp only [<- hVe] at *
 clear hwk hVe hV hc hX hI
 clear h1 h2 hq
 go_enter func37, ntmps37
 go_wp2_with fail
 refine (AS.out _ hwa).mono ?_
 rintro o w0 ⟨rfl, hk0⟩
 obtain ⟨_, _, _, _, _, _, _, _, _, _, _, _⟩ : Zc2 w0 w.heap.size 0 0 := zq183
 have hx0 := hwa.out.kept hk0
 have c35b := hx0.c35
 have hf0 := hx0.fro
 have hl0 := hx0.lt
 have hxs := hide1 (hws.out _ hx0)
 go_wp2_with fail
 refine (IT.out _ hxs).mono ?_
 rintro o w1 ⟨rfl, hk1⟩
 have hx1 := hide1 (hxs.out.kept hk1)
 obtain ⟨_, _, _, _, _, _, _, _, _, _, _, _⟩ : Zc2 w1 w.heap.size 0 0 := zq178
 go_wp2_with fail
 refine (IN.out _ hx1).mono ?_
 rintro o w2 ⟨rfl, hx2, hk2⟩
 obtain ⟨_, _, _, _, _, _, _, _, _, _, _, _⟩ : Zc2 w2 w.heap.size 0 0 := zq179
 have hx3 := hide1 (((hx2.alloc (.cells #[.int .i64 op, .int .i64 rd, .int .i64 rs1, .int .i64 rs2, .int .i64 im, .int .i64 ln] 60)).alloc (.cells #[.int .i64 n, .int .i64 t] 118)).alloc (.cells #[.int .i64 n, .int .i64 t] 118))
 go_wp2_with (go_at_call 82; refine (x_none _ _ _).mono ?_; rintro o wn ⟨rfl, rfl⟩)
 refine (TE.out _ hx3).mono ?_
 rintro o w3 ⟨rfl, hx4, hk3⟩
 obtain ⟨_, _, _, _, _, _, _, _, _, _, _, _⟩ : Zc2 w3 w.heap.size 0 0 := zq180
 obtain ⟨ic0w3, ic1w3, ic2w3, ic3w3, ic4w3, ic5w3, ifw3, izw3, izw31, inw31, izw32, inw32, izw33, inw33, izw34, inw34⟩ : Zc6 w3 w2.heap.size op rd rs1 rs2 im ln := zq181
 obtain ⟨_, _, _, _, _, _, _, _, _, _, _, _⟩ : Zc2 w3 (w2.heap.size + 1) n t := zq182
 go_wp2_with fail
 refine bodyPost_ret (v := .tuple #[.agg #[.int .i64 1, .int .i64 n], .int .i64 0]) zq526 rfl ⟨rfl, ?_, ?_⟩
 . exact zq335
 . exact zq336
theorem x_act_r1 (mb rb : Nat) (X : XS) (hI : XInv X) (h1 : X.waits = true) (h2 : ¬ askD X = 0) (hc : intD (wakX X) = -1) (he : (insX (wakX X)).1.2.1 = -1) (w) (hw : Hid (XAt w mb rb X)) :
 CX 37 #[.pointer (some ⟨mb, 0, none⟩)] (.tuple #[didV 0 0, .int .i64 (cwrD (insX (wakX X)).1.1)]) [mb, rb] mb rb ((insX (wakX X)).2) w := by
 have hX := hI.ok
 have hlt := hw.out.lt
 have hrlt := hw.out.rlt
 have hlt' : ¬ mb = w.heap.size := by omega
 have hwa : Hid (XAt (w.alloc (.cells #[.int .i64 0, .int .i64 0] 45)) mb rb X) := zq10
 have c35 := hw.out.c35
 have hfr := hw.out.fro
 have AS := hide1 (fun W h => x_asked mb rb X hX W h)
 obtain ⟨q, hq⟩ := zn1 (askD X)
 simp only [<- hq] at AS h2
 have q0 : ((q : Int) == 0) = false := by simp [h2]
 simp only [h1] at c35
 have hws : Hid (∀ W, XAt W mb rb X -> XAt (W.setCell ⟨mb, 35, none⟩ (.bool false)) mb rb (wakX X)) := fun W h => h.waitS
 have hV := wak_inv hI
 have IT := hide1 (fun W h => x_interrupt mb rb (wakX X) hV.ok W h)
 have hwk : { X with waits := false } = wakX X := rfl
 have hin := ins_inv hV
 have IN := hide1 (fun W h => x_instruct mb rb (wakX X) hV.ok W h)
 obtain ⟨⟨⟨N, c, t⟩, Y⟩, hR⟩ : ∃ R, R = insX (wakX X) := ⟨_, rfl⟩
 simp only [<- hR] at IN hin he |-
 try dsimp only at IN hin he |-
 simp only [hc] at IT
 subst he
 have CW := hide1 (fun W => x_countersWritten N W)
 obtain ⟨z, hz⟩ := zn1 (cwrD N)
 simp only [<- hz] at CW |-
 clear hz
 obtain ⟨op, rd, rs1, rs2, im, ln⟩ := N
 unfold niV at *
 unfold excA at IN
 try dsimp only at *
 clear hR hin
 unfold didV
 skip
 obtain ⟨V, hVe⟩ := zn1 (wakX X)
 simp only [<- hVe] at *
 clear hwk hVe hV hc hX hI
 clear h1 h2 hq
 go_enter func37, ntmps37
 go_wp2_with fail
 refine (AS.out _ hwa).mono ?_
 rintro o w0 ⟨rfl, hk0⟩
 obtain ⟨_, _, _, _, _, _, _, _, _, _, _, _⟩ : Zc2 w0 w.heap.size 0 0 := zq183
 have hx0 := hwa.out.kept hk0
 have c35b := hx0.c35
 have hf0 := hx0.fro
 have hl0 := hx0.lt
 have hxs := hide1 (hws.out _ hx0)
 go_wp2_with fail
 refine (IT.out _ hxs).mono ?_
 rintro o w1 ⟨rfl, hk1⟩
 have hx1 := hide1 (hxs.out.kept hk1)
 obtain ⟨_, _, _, _, _, _, _, _, _, _, _, _⟩ : Zc2 w1 w.heap.size 0 0 := zq178
 go_wp2_with fail
 refine (IN.out _ hx1).mono ?_
 rintro o w2 ⟨rfl, hx2, hk2⟩
 obtain ⟨_, _, _, _, _, _, _, _, _, _, _, _⟩ : Zc2 w2 w.heap.size 0 0 := zq179
 have hx3 := hide1 (((hx2.alloc (.cells #[.int .i64 op, .int .i64 rd, .int .i64 rs1, .int .i64 rs2, .int .i64 im, .int .i64 ln] 60)).alloc (.cells #[.int .i64 (-1), .int .i64 t] 118)).alloc (.cells #[.int .i64 (-1), .int .i64 t] 118))
 go_wp2_with (go_at_call 82; refine (x_none _ _ _).mono ?_; rintro o wn ⟨rfl, rfl⟩)
 refine (CW.out _).mono ?_
 rintro o w3 ⟨rfl, hk3⟩
 have hx4 := hx3.out.kept hk3
 obtain ⟨_, _, _, _, _, _, _, _, _, _, _, _⟩ : Zc2 w3 w.heap.size 0 0 := zq180
 obtain ⟨ic0w3, ic1w3, ic2w3, ic3w3, ic4w3, ic5w3, ifw3, izw3, izw31, inw31, izw32, inw32, izw33, inw33, izw34, inw34⟩ : Zc6 w3 w2.heap.size op rd rs1 rs2 im ln := zq181
 obtain ⟨_, _, _, _, _, _, _, _, _, _, _, _⟩ : Zc2 w3 (w2.heap.size + 1) (-1) t := zq182
 go_wp2_with fail
 refine bodyPost_ret (v := .tuple #[.agg #[.int .i64 0, .int .i64 0], .int .i64 z]) zq526 rfl ⟨rfl, ?_, ?_⟩
 . exact zq335
 . exact zq336
theorem x_act (mb rb : Nat) (X : XS) (hI : XInv X) (w) (hw : Hid (XAt w mb rb X)) :
 CX 37 #[.pointer (some ⟨mb, 0, none⟩)] (.tuple #[didV (actX X).1.1 (actX X).1.2.1, .int .i64 (actX X).1.2.2]) [mb, rb] mb rb ((actX X).2) w := by
 unfold actX
 by_cases h1 : X.waits = true
 . by_cases h2 : askD X = 0
   . rw [if_pos (by simp [h1, h2])]; exact x_act_i mb rb X hI h1 h2 w hw
   . rw [if_neg (by simp [h1, h2])]
     by_cases hc : intD (wakX X) = -1
     . rw [if_pos hc]; unfold actE
       by_cases he : (insX (wakX X)).1.2.1 = -1
       . rw [if_pos he]; exact x_act_r1 mb rb X hI h1 h2 hc he w hw
       . rw [if_neg he]; exact x_act_e1 mb rb X hI h1 h2 hc he w hw
     . rw [if_neg hc]; exact x_act_t1 mb rb X hI h1 h2 hc w hw
 . rw [if_neg (by simp [h1])]
   have h1 : X.waits = false := by simpa using h1
   by_cases hc : intD (wakX X) = -1
   . rw [if_pos hc]; unfold actE
     by_cases he : (insX (wakX X)).1.2.1 = -1
     . rw [if_pos he]; exact x_act_r0 mb rb X hI h1 hc he w hw
     . rw [if_neg he]; exact x_act_e0 mb rb X hI h1 hc he w hw
   . rw [if_neg hc]; exact x_act_t0 mb rb X hI h1 hc w hw
def stepX (X : XS) : (Int × Int) × XS := (((actX X).1.1, (actX X).1.2.1), cntX (actX X).2 (decide ((actX X).1.1 = 0)) (X.c.minh ||| (actX X).1.2.2.toNat))
theorem cwr_in (i : NI) : cwrD i = 0 \/ cwrD i = 1 \/ cwrD i = 4 := by
 unfold cwrD; repeat' split
 all_goals omega
theorem act_in (X : XS) : (actX X).1.2.2 = 0 \/ (actX X).1.2.2 = 1 \/ (actX X).1.2.2 = 4 := by
 unfold actX actE
 split
 . exact .inl rfl
 split
 . split
   . exact cwr_in _
   . exact .inl rfl
 . exact .inl rfl
theorem step_inv {X : XS} (h : XInv X) : XInv (stepX X).2 := cnt_inv (act_inv h).1 _ _
theorem x_Step (mb rb : Nat) (X : XS) (hI : XInv X) (w) (hw : Hid (XAt w mb rb X)) :
 CX 24 #[.pointer (some ⟨mb, 0, none⟩)] (didV (stepX X).1.1 (stepX X).1.2) [mb, rb] mb rb ((stepX X).2) w := by
 have hlt := hw.out.lt
 have hrlt := hw.out.rlt
 have hlt' : ¬ mb = w.heap.size := by omega
 have c45 := hw.out.c45
 have hwa : Hid (XAt (w.alloc (.cells #[.int .i64 0, .int .i64 0] 45)) mb rb X) := zq10
 have AC := hide1 (fun W h => x_act mb rb X hI W h)
 have hai := act_inv hI
 have han := act_in X
 unfold stepX
 obtain ⟨⟨⟨k, c, z⟩, Y⟩, hR⟩ : ∃ R, R = actX X := ⟨_, rfl⟩
 simp only [<- hR] at AC hai han |-
 try dsimp only at AC hai han |-
 obtain ⟨v, hv⟩ : ∃ v : Nat, z = v := ⟨z.toNat, by omega⟩
 subst hv
 simp only [Int.toNat_natCast] at |-
 obtain ⟨m, hm⟩ := zn1 (X.c.minh)
 have hm8 := hI.ok.minh
 simp only [<- hm] at c45 hm8 |-
 have o1 := b_or m v (by omega) (by omega)
 have hlt2 : (m ||| v) < 4294967296 := nat_or_lt m v 32 (by omega) (by omega)
 obtain ⟨u, hu⟩ := zn1 (m ||| v)
 simp only [<- hu] at o1 hlt2 |-
 obtain ⟨r, hr⟩ := zn1 (decide (k = 0))
 have hr2 : (k == 0) = r := by rw [hr]; by_cases h : k = 0 <;> simp [h]
 have CN := hide1 (fun W h => x_count mb rb Y hai.1.ok r u hlt2 W h)
 simp only [<- hr] at |-
 unfold didV at *
 clear hw hI hR hai han hm hm8 hu hr hlt2
 go_enter func24, ntmps24
 go_wp2_with fail
 refine (AC.out _ hwa).mono ?_
 rintro o w1 ⟨rfl, hx1, hk1⟩
 obtain ⟨_, _, _, _, _, _, _, _, _, _, _, _⟩ : Zc2 w1 w.heap.size 0 0 := zq167
 have hx2 := hide1 (hx1.alloc (.cells #[.int .i64 k, .int .i64 c] 45))
 go_wp2_with fail
 refine (CN.out _ hx2).mono ?_
 rintro o w2 ⟨rfl, hx3, hk2⟩
 have dc0w2 : w2.cell? ⟨w.heap.size, 0, none⟩ = some (.int .i64 0) := zq133
 have dc1w2 : w2.cell? ⟨w.heap.size, 1, none⟩ = some (.int .i64 0) := zq133
 have dfw2 : ∀ o, w2.frozen? ⟨w.heap.size, o, none⟩ = false := fun o => (hk2.frozen zq527 zq527).trans zq528
 have dzw2 : w.heap.size < w2.heap.size := zq62
 have dzw21 : w.heap.size < w2.heap.size + 1 := by omega
 have dnw21 : ¬ w.heap.size = w2.heap.size + 1 := by omega
 have dzw22 : w.heap.size < w2.heap.size + 1 + 1 := by omega
 have dnw22 : ¬ w.heap.size = w2.heap.size + 1 + 1 := by omega
 have dzw23 : w.heap.size < w2.heap.size + 1 + 1 + 1 := by omega
 have dnw23 : ¬ w.heap.size = w2.heap.size + 1 + 1 + 1 := by omega
 have dzw24 : w.heap.size < w2.heap.size + 1 + 1 + 1 + 1 := by omega
 have dnw24 : ¬ w.heap.size = w2.heap.size + 1 + 1 + 1 + 1 := by omega
 have lc0w2 : w2.cell? ⟨w1.heap.size, 0, none⟩ = some (.int .i64 k) := zq134
 have lc1w2 : w2.cell? ⟨w1.heap.size, 1, none⟩ = some (.int .i64 c) := zq134
 have lfw2 : ∀ o, w2.frozen? ⟨w1.heap.size, o, none⟩ = false := fun o => (hk2.frozen zq527 zq527).trans zq529
 have lzw2 : w1.heap.size < w2.heap.size := zq62
 have lzw21 : w1.heap.size < w2.heap.size + 1 := by omega
 have lnw21 : ¬ w1.heap.size = w2.heap.size + 1 := by omega
 have lzw22 : w1.heap.size < w2.heap.size + 1 + 1 := by omega
 have lnw22 : ¬ w1.heap.size = w2.heap.size + 1 + 1 := by omega
 have lzw23 : w1.heap.size < w2.heap.size + 1 + 1 + 1 := by omega
 have lnw23 : ¬ w1.heap.size = w2.heap.size + 1 + 1 + 1 := by omega
 have lzw24 : w1.heap.size < w2.heap.size + 1 + 1 + 1 + 1 := by omega
 have lnw24 : ¬ w1.heap.size = w2.heap.size + 1 + 1 + 1 + 1 := by omega
 go_wp2_with fail
 refine bodyPost_ret (v := .agg #[.int .i64 k, .int .i64 c]) (by simp [results, results24, go_sem, *]) rfl ⟨rfl, ?_, ?_⟩
 . repeat (first | (with_reducible exact hx3) | (with_reducible refine XAt.alloc ?_ _) | (with_reducible refine XAt.drew ?_) | (with_reducible refine XAt.other _ _ _ ?_ (by omega) (by omega)))
 . exact zq308
def runG : Nat -> Nat -> XS -> Nat × XS
 | 0, r, X => (r, X)
 | n + 1, r, X => runG n (if (stepX X).1.1 = 0 then r + 1 else r) (stepX X).2
theorem run_inv : ∀ (n r : Nat) (X : XS), XInv X -> XInv (runG n r X).2
 | 0, _, _, h => h
 | n + 1, _, _, h => run_inv n _ _ (step_inv h)
theorem x_Run_no (mb : Nat) (n : Int) (h : n < 0 \/ 4096 < n) (w : World) :
 CS 62 #[.pointer (some ⟨mb, 0, none⟩), .int .i64 n] (.tuple #[.int .i64 0, .int .i64 2]) w := by
 rcases h with h | h
 . have q : decide (n < 0) = true := by simp [h]
   exact zq337
 . have q : decide (n < 0) = false := by simp; omega
   have q2 : decide (n > 4096) = true := by simp; omega
   have q3 : decide (4096 < n) = true := by simp; omega
   exact zq337
theorem x_Run (mb rb : Nat) (X : XS) (hI : XInv X) (n : Nat) (hn : n <= 4096) (w) (hw : Hid (XAt w mb rb X)) :
 CX 62 #[.pointer (some ⟨mb, 0, none⟩), .int .i64 n] (.tuple #[.int .i64 (runG n 0 X).1, .int .i64 0]) [mb, rb] mb rb ((runG n 0 X).2) w := by
 have q : decide ((n : Int) < 0) = false := by simp
 have q2 : decide ((n : Int) > 4096) = false := by simp; omega
 have q3 : decide (4096 < (n : Int)) = false := by simp; omega
 have q3' : decide (4096 < n) = false := by simp; omega
 obtain ⟨T, hT⟩ := zn1 (runG n 0 X)
 rw [<- hT]
 have HT := hide1 hT
 have HI := hide1 hI
 clear hT hI
 go_enter func62, ntmps62
 go_wp2_with fail
 go_loopw [6, 7] (fun c d wr => ∃ (r i : Nat) (Y : XS), i <= n /\ r <= i /\ c = .int .i64 r /\ d = .int .i64 i /\ Hid (XInv Y) /\ Hid (XAt wr mb rb Y) /\ Hid (Kept [mb, rb] w wr) /\ Hid (T = runG (n - i) r Y)) (fun _ d _ => n - (intOf d).toNat)
 case atStart => exact ⟨0, 0, X, by omega, by omega, rfl, rfl, HI, hw, hide1 (Kept.refl _ _), HT⟩
 case round =>
  obtain ⟨r, i, Y, hi, hr, rfl, rfl, hY, hb, hk, hg⟩ := hrel
  clear HT HI hw
  by_cases hlt : i < n
  . have hlt' : decide ((i : Int) < (n : Int)) = true := by simp; omega
    have hg2 : Hid (T = runG (n - (i + 1)) (if (stepX Y).1.1 = 0 then r + 1 else r) (stepX Y).2) := by
     show T = _
     rw [hg.out, show n - i = (n - (i + 1)) + 1 by omega]; rfl
    clear hg
    have ST := hide1 (x_Step mb rb Y hY.out wr hb)
    have hZ := hide1 (step_inv hY.out)
    obtain ⟨⟨⟨k, c⟩, Z⟩, hR⟩ : ∃ R, R = stepX Y := ⟨_, rfl⟩
    simp only [<- hR] at ST hZ hg2
    try dsimp only at ST hZ hg2
    have hml := hb.out.lt
    have hrl := hb.out.rlt
    unfold didV at ST
    clear hR hY hb
    by_cases h0 : k = 0
    . have hg3 : Hid (T = runG (n - (i + 1)) (r + 1) Z) := by show T = _; rw [hg2.out, if_pos h0]
      have q0 : (k == 0) = true := by simp [h0]
      clear hg2 h0
      go_wp2_with fail
      refine ST.out.mono ?_
      rintro o w1 ⟨rfl, hx1, hk1⟩
      clear ST
      have hx2 := hide1 (hx1.alloc (.cells #[.int .i64 k, .int .i64 c] 45))
      have hk2 := hide1 ((hk.out.trans hk1).alloc (.cells #[.int .i64 k, .int .i64 c] 45))
      go_wp2_with fail
      go_roundw
      case rel =>
       first
        | exact ⟨r + 1, i + 1, Z, by omega, by omega, by go_num, by go_num, hZ, hx2, hk2, hg3⟩
        | ((repeat apply Exists.intro); exact ⟨⟨r + 1, i + 1, Z, by omega, by omega, by go_num, by go_num, hZ, hx2, hk2, hg3⟩, rfl⟩)
      case measure => exact zq191
    . have hg3 : Hid (T = runG (n - (i + 1)) r Z) := by show T = _; rw [hg2.out, if_neg h0]
      have q0 : (k == 0) = false := by simp [h0]
      clear hg2 h0
      go_wp2_with fail
      refine ST.out.mono ?_
      rintro o w1 ⟨rfl, hx1, hk1⟩
      clear ST
      have hx2 := hide1 (hx1.alloc (.cells #[.int .i64 k, .int .i64 c] 45))
      have hk2 := hide1 ((hk.out.trans hk1).alloc (.cells #[.int .i64 k, .int .i64 c] 45))
      go_wp2_with fail
      go_roundw
      case rel =>
       first
        | exact ⟨r, i + 1, Z, by omega, by omega, rfl, by go_num, hZ, hx2, hk2, hg3⟩
        | ((repeat apply Exists.intro); exact ⟨⟨r, i + 1, Z, by omega, by omega, rfl, by go_num, hZ, hx2, hk2, hg3⟩, rfl⟩)
      case measure => exact zq191
  . have hlt' : decide ((i : Int) < (n : Int)) = false := by simp; omega
    have hTT : Hid (T = (r, Y)) := by show T = _; rw [hg.out, show n - i = 0 by omega]; rfl
    clear hg
    go_wp2_with fail
    go_ret2
    exact ⟨by rw [hTT.out] <;> rfl, by rw [hTT.out]; exact hb.out, hk.out⟩
end
def csr0 : XCsr := ⟨0, 0, 0, 0, 0, 0, 0, 0, 0, 0, 0, 0, 0, 0, 0, 0, 0, 0, 0, 0, 0, 0, 0⟩
def hart0 (X : XS) : XS := { X with x := List.replicate 32 0, pc := 2147483648, mode := 3, waits := false, resd := false, resv := 0 }
def rstX (X : XS) : XS := { b := busRe X.b, c := csr0, x := List.replicate 32 0, pc := 2147483648, mode := 3, waits := false, resd := false, resv := 0 }
theorem info67 : (prog.info? 67).map (·.size) = some 37 := by kernel_rfl
theorem info71' : (prog.info? 71).map (·.size) = some 23 := by kernel_rfl
theorem info73 : (prog.info? 73).map (·.size) = some 5 := by kernel_rfl
theorem info75 : (prog.info? 75).map (·.size) = some 5 := by kernel_rfl
def hart0L : List Value := [.int .i64 0, .int .i64 0, .int .i64 0, .int .i64 0, .int .i64 0, .int .i64 0, .int .i64 0, .int .i64 0, .int .i64 0, .int .i64 0, .int .i64 0, .int .i64 0, .int .i64 0, .int .i64 0, .int .i64 0, .int .i64 0, .int .i64 0, .int .i64 0, .int .i64 0, .int .i64 0, .int .i64 0, .int .i64 0, .int .i64 0, .int .i64 0, .int .i64 0, .int .i64 0, .int .i64 0, .int .i64 0, .int .i64 0, .int .i64 0, .int .i64 0, .int .i64 0, .int .i64 2147483648, .int .i64 3, .bool false, .bool false, .int .i64 0]
def csr0L : List Value := [.int .i64 0, .int .i64 0, .int .i64 0, .int .i64 0, .int .i64 0, .int .i64 0, .int .i64 0, .int .i64 0, .int .i64 0, .int .i64 0, .int .i64 0, .int .i64 0, .int .i64 0, .int .i64 0, .int .i64 0, .int .i64 0, .int .i64 0, .int .i64 0, .int .i64 0, .int .i64 0, .int .i64 0, .int .i64 0, .int .i64 0]
def timer0L : List Value := [.int .i64 0, .int .i64 0, .int .i64 0, .int .i64 4294967295, .int .i64 4294967295]
def port0L : List Value := [.int .i64 0, .int .i64 0, .bool false, .string ⟨#[]⟩, .string ⟨#[]⟩]
theorem x_Reset (mb rb X w) (hw : Hid (XAt w mb rb X)) :
 CX 35 #[.pointer (some ⟨mb, 0, none⟩)] (.tuple #[]) [mb] mb rb (rstX X) w := by
 have hx1 := hide1 (hw.out.setCs (X' := hart0 X) 1 hart0L rfl (by decide) rfl)
 have hx2 := hide1 (hx1.out.setCs (X' := { hart0 X with c := csr0 }) 38 csr0L rfl (by decide) rfl)
 have hx3 := hide1 (hx2.out.setCs (X' := { hart0 X with c := csr0, b := { X.b with msip := 0, time := 0, timeh := 0, cmp := 4294967295, cmph := 4294967295 } }) 61 timer0L rfl (by decide) rfl)
 have hx4 := hide1 (hx3.out.setCs (X' := rstX X) 66 port0L rfl (by decide) rfl)
 have hk4 : Hid (Kept [mb] w ((((w.setCells mb 1 hart0L).setCells mb 38 csr0L).setCells mb 61 timer0L).setCells mb 66 port0L)) := hide1 (Kept.setCs _ (.inl (by simp)) _ _ _ (Kept.setCs _ (.inl (by simp)) _ _ _ (Kept.setCs _ (.inl (by simp)) _ _ _ (Kept.setCs _ (.inl (by simp)) _ _ _ (Kept.refl _ _)))))
 have t1 := hide1 (hw.out.there' 1 37 (by decide))
 have t2 := hide1 (hx1.out.there' 38 23 (by decide))
 have t3 := hide1 (hx2.out.there' 61 5 (by decide))
 have t4 := hide1 (hx3.out.there' 66 5 (by decide))
 clear hw hx1 hx2 hx3
 go_enter func35, ntmps35
 go_upto_region 0 with fail
 refine wp_region_lit ?_
 refine wpList_plain rfl (fun K hK => ?_)
 go_simp
 refine hK _ _ ?_
 clear hK K
 refine wpList_plain rfl (fun K hK => ?_)
 go_simp
 refine hK _ _ ?_
 clear hK K
 refine wpList_plain rfl (fun K hK => ?_)
 go_simp
 refine hK _ _ ?_
 clear hK K
 refine wpList_plain rfl (fun K hK => ?_)
 go_simp
 refine hK _ _ ?_
 clear hK K
 refine wpList_store_mid rfl _ _ _ rfl mb 1 hart0L.toArray rfl rfl t1.out (by rw [info67]; rfl) zq530 ?_
 refine wpList_nil ?_
 go_upto_region 1 with fail
 refine wp_region_lit ?_
 refine wpList_plain rfl (fun K hK => ?_)
 go_simp
 refine hK _ _ ?_
 clear hK K
 refine wpList_plain rfl (fun K hK => ?_)
 go_simp
 refine hK _ _ ?_
 clear hK K
 refine wpList_plain rfl (fun K hK => ?_)
 go_simp
 refine hK _ _ ?_
 clear hK K
 refine wpList_plain rfl (fun K hK => ?_)
 go_simp
 refine hK _ _ ?_
 clear hK K
 refine wpList_store_mid rfl _ _ _ rfl mb 38 csr0L.toArray rfl rfl t2.out (by rw [info71']; rfl) zq530 ?_
 refine wpList_nil ?_
 go_upto_region 2 with fail
 refine wp_region_lit ?_
 refine wpList_plain rfl (fun K hK => ?_)
 go_simp
 refine hK _ _ ?_
 clear hK K
 refine wpList_plain rfl (fun K hK => ?_)
 go_simp
 refine hK _ _ ?_
 clear hK K
 refine wpList_plain rfl (fun K hK => ?_)
 go_simp
 refine hK _ _ ?_
 clear hK K
 refine wpList_plain rfl (fun K hK => ?_)
 go_simp
 refine hK _ _ ?_
 clear hK K
 refine wpList_plain rfl (fun K hK => ?_)
 go_simp
 refine hK _ _ ?_
 clear hK K
 refine wpList_store_mid rfl _ _ _ rfl mb 61 timer0L.toArray rfl rfl t3.out (by rw [info73]; rfl) zq530 ?_
 refine wpList_nil ?_
 go_upto_region 3 with fail
 refine wp_region_lit ?_
 refine wpList_plain rfl (fun K hK => ?_)
 go_simp
 refine hK _ _ ?_
 clear hK K
 refine wpList_plain rfl (fun K hK => ?_)
 go_simp
 refine hK _ _ ?_
 clear hK K
 refine wpList_plain rfl (fun K hK => ?_)
 go_simp
 refine hK _ _ ?_
 clear hK K
 refine wpList_plain rfl (fun K hK => ?_)
 go_simp
 refine hK _ _ ?_
 clear hK K
 refine wpList_store_mid rfl _ _ _ rfl mb 66 port0L.toArray rfl rfl t4.out (by rw [info75]; rfl) zq530 ?_
 refine wpList_nil ?_
 go_wp2_with fail
 go_end0
 exact ⟨rfl, hx4.out, hk4.out⟩
def bus00 (n : Nat) : BusS := { ram := List.replicate n 0, msip := 0, time := 0, timeh := 0, cmp := 0, cmph := 0, enable := 0, scratch := 0, lost := false, rx := ⟨#[]⟩, tx := ⟨#[]⟩ }
def mac00 (n : Nat) : XS := { b := bus00 n, c := csr0, x := List.replicate 32 0, pc := 0, mode := 0, waits := false, resd := false, resv := 0 }
def newX (n : Nat) : XS := rstX (mac00 n)
theorem x_New_no (n : Int) (h : n < 0 \/ 65536 < n) (w : World) :
 CS 22 #[.int .i64 n] (.tuple #[.pointer none, .int .i64 2]) w := by
 rcases h with h | h
 . have q : decide (n < 0) = true := by simp [h]
   exact zq338
 . have q : decide (n < 0) = false := by simp; omega
   have q2 : decide (n > 65536) = true := by simp; omega
   have q3 : decide (65536 < n) = true := by simp; omega
   exact zq338
def macC (rb n : Nat) : Obj := .cells #[.slice (some ⟨rb, 0, none⟩) n n, .int .i64 0, .int .i64 0, .int .i64 0, .int .i64 0, .int .i64 0, .int .i64 0, .int .i64 0, .int .i64 0, .int .i64 0, .int .i64 0, .int .i64 0, .int .i64 0, .int .i64 0, .int .i64 0, .int .i64 0, .int .i64 0, .int .i64 0, .int .i64 0, .int .i64 0, .int .i64 0, .int .i64 0, .int .i64 0, .int .i64 0, .int .i64 0, .int .i64 0, .int .i64 0, .int .i64 0, .int .i64 0, .int .i64 0, .int .i64 0, .int .i64 0, .int .i64 0, .int .i64 0, .int .i64 0, .bool false, .bool false, .int .i64 0, .int .i64 0, .int .i64 0, .int .i64 0, .int .i64 0, .int .i64 0, .int .i64 0, .int .i64 0, .int .i64 0, .int .i64 0, .int .i64 0, .int .i64 0, .int .i64 0, .int .i64 0, .int .i64 0, .int .i64 0, .int .i64 0, .int .i64 0, .int .i64 0, .int .i64 0, .int .i64 0, .int .i64 0, .int .i64 0, .int .i64 0, .int .i64 0, .int .i64 0, .int .i64 0, .int .i64 0, .int .i64 0, .int .i64 0, .int .i64 0, .bool false, .string ⟨#[]⟩, .string ⟨#[]⟩] 77
theorem macC_eq (rb n : Nat) : macC rb n = .cells (xL rb (mac00 n)).toArray 77 := by
 unfold macC xL mac00 bus00 csr0
 simp
theorem mac00_at (W : World) (n : Nat) : XAt ((W.alloc (.cells (madeCells #[.int .u8 0] n) 5)).alloc (macC W.heap.size n)) (W.heap.size + 1) W.heap.size (mac00 n) := by
 have hk : Below (W.alloc (.cells (madeCells #[.int .u8 0] n) 5)).heap.size (W.alloc (.cells (madeCells #[.int .u8 0] n) 5)) ((W.alloc (.cells (madeCells #[.int .u8 0] n) 5)).alloc (macC W.heap.size n)) := zq135
 have hr : ∀ j, j < n -> (W.alloc (.cells (madeCells #[.int .u8 0] n) 5)).cell? ⟨W.heap.size, j, none⟩ = some (.int .u8 0) := by
  intro j hj
  simp [madeCells, hj, Nat.mod_one]
 have hf : ∀ o, (W.alloc (.cells (madeCells #[.int .u8 0] n) 5)).frozen? ⟨W.heap.size, o, none⟩ = false := by intro o; simp
 refine ⟨fun k hk71 => ?_, fun o => ?_, ?_, fun j hj => ?_, fun o => ?_, ?_, ?_⟩
 . rw [macC_eq]; simp
 . rw [macC_eq]; simp
 . simp
 . have hj' : j < n := by simpa [mac00, bus00] using hj
   rw [hk.cell (p := ⟨W.heap.size, j, none⟩) (by simp), hr j hj']
   simp [mac00, bus00]
 . rw [hk.frozen (p := ⟨W.heap.size, o, none⟩) (by simp), hf o]
 . simp; omega
 . omega
theorem x_New (n : Nat) (hn : n <= 65536) (W : World) :
 Calls prog 22 #[.int .i64 n] W fun e w' => e = .returned (.tuple #[.pointer (some ⟨W.heap.size + 1, 0, none⟩), .int .i64 0]) /\ XAt w' (W.heap.size + 1) W.heap.size (newX n) /\ Kept [] W w' := by
 obtain ⟨i0, hi, hz0, hz1, hz2⟩ := info_parts Tryz.info5
 have e0 : decide ((n : Int) < 0) = false := by simp
 have e1 : decide (65536 < (n : Int)) = false := by simp; omega
 have e1' : decide ((n : Int) > 65536) = false := by simp; omega
 have e2 : decide (65536 < n) = false := by simp; omega
 have hmk : ∀ w, (Instr.makeSlice 64 (.int .i64 (n : Int)) (.int .i64 (n : Int))).run prog w = .ok (.slice (some ⟨w.heap.size, 0, none⟩) n n) (w.alloc (.cells (madeCells #[.int .u8 0] n) 5)) := by
  intro w
  have h := run_makeSlice (P := prog) w 64 5 i0 (.int .u8 0) Tryz.underlying64 hi hz0 .i64 .i64 n n (by omega) (Int.le_refl _) (by rw [hz1]; omega) (by rw [hz2]; omega) (by omega)
  rw [hz1] at h
  simpa [Value.cells] using h
 obtain ⟨o1, ho1⟩ := zn1 (Obj.cells (madeCells #[.int .u8 0] n) 5)
 have hb0 := mac00_at W n
 rw [<- ho1] at hb0 hmk
 have R := hide1 (x_Reset (W.heap.size + 1) W.heap.size _ _ (hide1 hb0))
 have HK : Hid (Kept [] W ((W.alloc o1).alloc (macC W.heap.size n))) := hide1 (((Kept.refl _ _).alloc _).alloc _)
 have HKB : Hid (∀ w', Kept [W.heap.size + 1] ((W.alloc o1).alloc (macC W.heap.size n)) w' -> Kept [] W w') := hide1 (fun w' hk => ⟨hk.os.trans HK.out.os, hk.tape.trans HK.out.tape, hk.output.trans HK.out.output, Nat.le_trans HK.out.size hk.size, fun k hkk _ => (hk.block k (Nat.lt_of_lt_of_le hkk HK.out.size) (by simp; omega)).trans (HK.out.block k hkk (by simp))⟩)
 unfold macC at R HKB
 unfold newX
 clear hb0 HK ho1
 go_enter func22, ntmps22
 go_wp2_with fail
 refine R.out.mono ?_
 rintro e w1 ⟨rfl, hb1, hk1⟩
 go_wp2_with fail
 go_ret2
 exact ⟨rfl, hb1, HKB.out _ hk1⟩
def bytV (l : List UInt8) : List Value := l.map fun c => .int .u8 (c.toNat : Int)
theorem XAt.laid {mb rb : Nat} : ∀ (l : List UInt8) (off : Nat) {X : XS} {w : World}, XAt w mb rb X -> off + l.length <= X.b.ram.length -> XAt (w.setCells rb off (bytV l)) mb rb (setRam X (laidB X.b.ram off l))
 | [], off, X, w, h, _ => h
 | c :: l, off, X, w, h, hl => by
  have h1 := h.setR off (by simp at hl; omega) c
  have h2 := XAt.laid l (off + 1) h1 (by simp at hl |-; omega)
  exact h2
theorem laid_all : ∀ (l r : List UInt8) (p : Nat), p + l.length = r.length -> laidB r p l = r.take p ++ l
 | [], r, p, h => by simp at h; simp [laidB, h]
 | c :: l, r, p, h => by
  simp at h
  have := laid_all l (r.set p c) (p + 1) (by simp; omega)
  simp only [laidB]
  rw [this, List.take_succ_eq_append_getElem (by simp; omega)]
  simp [List.take_set_of_le]
theorem info77 : (prog.info? 77).map (·.size) = some 71 := by kernel_rfl
theorem infoU8 : (prog.info? 5).map (·.size) = some 1 := by kernel_rfl
theorem alloc_there' (w : World) (a : Array Value) (T : Nat) : (w.alloc (.cells a T)).there w.heap.size 0 a.size := by
 intro j hj
 constructor
 . simp [hj]
 . simp
theorem box_at {w mb rb X} (h : XAt w mb rb X) (z : Array Value) (T : Nat) (hz : z.size = 71) : XAt ((w.alloc (.cells z T)).setCells w.heap.size 0 (xL rb X)) w.heap.size rb X := by
 have ht := alloc_there' w z T
 have hr := World.rangeAt_setCells_same (w.alloc (.cells z T)) w.heap.size 0 (xL rb X) (by rw [xL_len, <- hz]; exact ht)
 have hk : Kept [] w ((w.alloc (.cells z T)).setCells w.heap.size 0 (xL rb X)) := Kept.setCs _ (.inr (Nat.le_refl _)) _ _ _ ((Kept.refl _ _).alloc _)
 have hrl := h.rlt
 refine ⟨fun k hk71 => ?_, fun o => ?_, ?_, fun j hj => ?_, fun o => ?_, ?_, ?_⟩
 . have hl : k < (xL rb X).length := by rw [xL_len]; exact hk71
   have := hr k _ (List.getElem?_eq_getElem hl)
   rw [Nat.zero_add] at this
   rw [this, List.getElem?_eq_getElem hl]
 . rw [World.frozen?_setCells]; simp
 . rw [setCells_size]; simp
 . rw [hk.cell (p := ⟨rb, j, none⟩) hrl (by simp)]; exact h.ram j hj
 . rw [hk.frozen (p := ⟨rb, o, none⟩) hrl (by simp)]; exact h.rfro o
 . rw [setCells_size]; simp; omega
 . omega
theorem wpList_boxed {ops : Array Oper} {rest : List Oper} {op : Oper} {a : Act} {w : World} {Q : Exit -> Act -> World -> Prop} {mb rb : Nat} {X : XS} {z : Array Value} {T : Nat} (h : XAt w mb rb X) (hz : z.size = 71) (hgd : op.guard = none) (ty : TypeId) (x y : Operand) (ho : op.op = .store ty x y) (cs : List Value) (hcs : cs = xL rb X)
 (hx : a.eval x = .pointer (some ⟨w.heap.size, 0, none⟩)) (hy : a.eval y = .agg cs.toArray) (hi : (prog.info? ty).map (·.size) = some 71)
 (hn : ∀ w2, XAt w2 w.heap.size rb X -> Kept [] w w2 -> w2.heap.size = w.heap.size + 1 -> wpList prog ops Q rest (a.put op.dst undef) w2) : wpList prog ops Q (op :: rest) a (w.alloc (.cells z T)) := by
 subst hcs
 refine wpList_store_mid hgd ty x y ho w.heap.size 0 (xL rb X).toArray hx hy ?_ hi ?_ ?_
 . show World.there _ _ _ 71
   rw [<- hz]; exact alloc_there' w z T
 . simp [xL, Value.oneCell']
 . exact hn _ (box_at h z T hz) (Kept.setCs _ (.inr (Nat.le_refl _)) _ _ _ ((Kept.refl _ _).alloc _)) (by rw [setCells_size]; simp)
theorem ram_at {w mb rb X} (h : XAt w mb rb X) (n T : Nat) : XAt ((w.setCell ⟨mb, 0, none⟩ (.slice (some ⟨w.heap.size, 0, none⟩) n n)).alloc (.cells (madeCells #[.int .u8 0] n) T)) mb w.heap.size (setRam X (List.replicate n 0)) := by
 have hlt := h.lt
 have hne : ¬ mb = w.heap.size := by omega
 have hz : (w.setCell ⟨mb, 0, none⟩ (.slice (some ⟨w.heap.size, 0, none⟩) n n)).heap.size = w.heap.size := by simp [World.setCell]
 have hc0 : (w.setCell ⟨mb, 0, none⟩ (.slice (some ⟨w.heap.size, 0, none⟩) n n)).cell? ⟨mb, 0, none⟩ = some (.slice (some ⟨w.heap.size, 0, none⟩) n n) := World.cell?_setCell_same _ _ _ h.c0
 have hck : ∀ k, k + 1 < 71 -> (w.setCell ⟨mb, 0, none⟩ (.slice (some ⟨w.heap.size, 0, none⟩) n n)).cell? ⟨mb, k + 1, none⟩ = (xL rb X)[k + 1]? := fun k hk => by rw [World.cell?_setCell_other _ _ _ _ (by simp), h.cell (k + 1) hk]
 have hfr : ∀ o, (w.setCell ⟨mb, 0, none⟩ (.slice (some ⟨w.heap.size, 0, none⟩) n n)).frozen? ⟨mb, o, none⟩ = false := fun o => by rw [World.frozen?_setCell]; exact h.fro o
 generalize w.setCell ⟨mb, 0, none⟩ (.slice (some ⟨w.heap.size, 0, none⟩) n n) = V at hz hc0 hck hfr
 have hk : Kept [] V (V.alloc (.cells (madeCells #[.int .u8 0] n) T)) := (Kept.refl [] V).alloc _
 rw [<- hz]
 have hne' : ¬ mb = V.heap.size := by omega
 refine ⟨fun k hk71 => ?_, fun o => ?_, ?_, fun j hj => ?_, fun o => ?_, ?_, hne'⟩
 . rw [hk.cell (p := ⟨mb, k, none⟩) (by show mb < _; omega) (by simp)]
   cases k with
   | zero => rw [hc0]; simp [xL, setRam, hz]
   | succ k => rw [hck k hk71]; rfl
 . rw [hk.frozen (p := ⟨mb, o, none⟩) (by show mb < _; omega) (by simp)]; exact hfr o
 . simp; omega
 . have hj' : j < n := by simpa [setRam] using hj
   simp [madeCells, hj', Nat.mod_one, setRam]
 . simp
 . simp
theorem bytV_len (l : List UInt8) : (bytV l).length = l.length := by simp [bytV]
theorem x_Copy (mb rb : Nat) (X : XS) (hram : X.b.ram.length <= 65536) (w) (hw : Hid (XAt w mb rb X)) :
 Calls prog 29 #[.pointer (some ⟨mb, 0, none⟩)] w fun o w' => o = .returned (.pointer (some ⟨w.heap.size, 0, none⟩)) /\ XAt w' w.heap.size (w.heap.size + 1) X /\ Kept [] w w' := by
 have hlt := hw.out.lt
 have hrlt := hw.out.rlt
 have hlt' : ¬ mb = w.heap.size := by omega
 have HR := hide1 (hw.out.range)
 have hsz : (xL rb X).toArray.size = 71 := rfl
 obtain ⟨i0, hi, hz0, hz1, hz2⟩ := info_parts Tryz.info5
 obtain ⟨n, hn⟩ := zn1 (X.b.ram.length)
 rw [<- hn] at hram
 have hmk : ∀ w, (Instr.makeSlice 64 (.int .i64 (n : Int)) (.int .i64 (n : Int))).run prog w = .ok (.slice (some ⟨w.heap.size, 0, none⟩) n n) (w.alloc (.cells (madeCells #[.int .u8 0] n) 5)) := by
  intro w
  have h := run_makeSlice (P := prog) w 64 5 i0 (.int .u8 0) Tryz.underlying64 hi hz0 .i64 .i64 n n (by omega) (Int.le_refl _) (by rw [hz1]; omega) (by rw [hz2]; omega) (by omega)
  rw [hz1] at h
  simpa [Value.cells] using h
 clear hi hz0 hz1 hz2 i0
 go_enter func29, ntmps29
 go_upto_region 1 with fail
 refine wp_region_lit ?_
 refine wpList_plain rfl (fun K hK => ?_)
 go_simp
 refine hK _ _ ?_
 clear hK K
 refine wpList_plain rfl (fun K hK => ?_)
 go_simp
 refine hK _ _ ?_
 clear hK K
 obtain ⟨cs, hcs⟩ := zn1 (xL rb X)
 rw [<- hcs] at HR hsz
 have HCS := hide1 hcs
 clear hcs
 refine wpList_load_mid rfl _ _ rfl mb 0 (by rfl) cs _ HR.out Tryz.underlying77 rfl (by rw [info77, HCS.out]; rfl) ?_
 refine wpList_plain rfl (fun K hK => ?_)
 go_simp
 refine hK _ _ ?_
 clear hK K
 refine wpList_boxed hw.out (by rfl) rfl _ _ _ rfl cs HCS.out rfl rfl info77 (fun w2 hx2 hk2 hs2 => ?_)
 refine wpList_nil ?_
 clear HCS HR hsz
 have hx0 := hw.out.kept hk2
 have c0 := hx0.c0
 have d0 := hx2.c0
 rw [<- hn] at c0 d0
 have hf2 := hx2.fro
 have hl2 : w.heap.size < w2.heap.size := by omega
 have hl2' : ¬ w.heap.size = w2.heap.size := by omega
 have hl3 : mb < w2.heap.size := by omega
 have hl3' : ¬ mb = w2.heap.size := by omega
 have hx3 := ram_at hx2 n 5
 have hx0' : XAt ((w2.setCell ⟨w.heap.size, 0, none⟩ (.slice (some ⟨w2.heap.size, 0, none⟩) n n)).alloc (.cells (madeCells #[.int .u8 0] n) 5)) mb rb X := (XAt.more hx0 (G := [w.heap.size]) ((Kept.refl _ _).setCell (.inl (by simp)) _) (by simp; omega) (by simp; omega)).alloc _
 have hk3 : Kept [] w ((w2.setCell ⟨w.heap.size, 0, none⟩ (.slice (some ⟨w2.heap.size, 0, none⟩) n n)).alloc (.cells (madeCells #[.int .u8 0] n) 5)) := (hk2.setCell (.inr (Nat.le_refl _)) _).alloc _
 obtain ⟨w3, hw3⟩ := zn1 ((w2.setCell ⟨w.heap.size, 0, none⟩ (.slice (some ⟨w2.heap.size, 0, none⟩) n n)).alloc (.cells (madeCells #[.int .u8 0] n) 5))
 rw [<- hw3] at hx3 hx0' hk3
 have hlen : (setRam X (List.replicate n 0)).b.ram.length = n := by simp [setRam]
 have hcp : (Builtin.copy_ #[64, 64] 3 #[.slice (some ⟨w2.heap.size, 0, none⟩) n n, .slice (some ⟨rb, 0, none⟩) n n]).run prog w3.drew = .ok (.int .i64 n) (w3.drew.setCells w2.heap.size 0 (bytV X.b.ram)) := by
  have := run_copy_cells (P := prog) w3.drew 64 64 3 5 w2.heap.size 0 n n ⟨rb, 0, none⟩ n n (bytV X.b.ram) Tryz.underlying64 infoU8 (by rw [bytV_len, <- hn]; exact (Nat.min_self n).symm) ?_ ?_ ?_ ?_
  . rw [this, bytV_len, <- hn]; rfl
  . intro j v hv
    have hj := (List.getElem?_eq_some_iff.1 hv).1
    rw [bytV_len] at hj
    rw [Addr.add_mid, Nat.zero_add, hx0'.drew.ram j hj, <- hv]
    simp [bytV, hj]
  . intro j hj
    rw [bytV_len, <- hn] at hj
    rw [Nat.zero_add, hx3.drew.ram j (by rw [hlen]; exact hj)]; rfl
  . intro j _
    exact hx3.drew.rfro _
  . intro v hv
    simp [bytV] at hv
    obtain ⟨c, _, rfl⟩ := hv
    rfl
 have hfin : XAt (w3.drew.setCells w2.heap.size 0 (bytV X.b.ram)) w.heap.size w2.heap.size X := by
  have h1 := XAt.laid X.b.ram 0 hx3.drew (by rw [hlen, <- hn]; omega)
  rw [laid_all X.b.ram _ 0 (by rw [hlen, <- hn]; omega)] at h1
  exact h1
 have hkf : Kept [] w (w3.drew.setCells w2.heap.size 0 (bytV X.b.ram)) := Kept.setCs _ (.inr (by omega)) _ _ _ hk3.drew
 rw [hs2] at hfin
 have HF := hide1 hfin
 have HKF := hide1 hkf
 have e3 := hx0'.c0
 have f3 := hx3.c0
 rw [<- hn] at e3
 rw [hlen] at f3
 clear hx3 hx0' hk3 hlen hfin hkf
 have HX2 := hide1 hx2
 have HX0 := hide1 hx0
 clear hx2 hx0
 have HS2 := hide1 hs2
 have HN := hide1 hn
 have HK2 := hide1 hk2
 clear hs2 hn hk2
 go_upto_region 3 with fail
 rw [<- hw3]
 clear hw3
 go_region
 all_goals
  go_wp2_with fail
  go_ret
  exact ⟨rfl, by rw [HS2.out]; exact HF.out, HKF.out⟩
section
attribute [local go_sem ↓] Go.wp_at_zero Go.wp_at_succ
theorem run_copy_str (w : World) (dT sT ty elem : TypeId) (b o dLen dCap : Nat) (s : ByteArray) (hu : prog.underlying dT = some (.slice elem)) (hs : (prog.info? elem).map (·.size) = some 1) (hn : s.size <= dLen)
 (hc : ∀ j, j < s.size -> (w.cell? ⟨b, o + j, none⟩).isSome = true) (hf : ∀ j, j < s.size -> w.frozen? ⟨b, o + j, none⟩ = false) :
 (Builtin.copy_ #[dT, sT] ty #[.slice (some ⟨b, o, none⟩) dLen dCap, .string s]).run prog w = .ok (goInt s.size) (w.setCells b o (bytV s.data.toList)) := by
 have hl : (bytV s.data.toList).length = s.size := by rw [bytV_len]; simp
 have hst := run_storeCells_cells (P := prog) b o (bytV s.data.toList) 0 w (by rw [hl]; simpa using hc) (by rw [hl]; simpa using hf) (by
  intro v hv
  simp [bytV] at hv
  obtain ⟨c, _, rfl⟩ := hv
  rfl)
 have hm : min s.size dLen = s.size := by omega
 have he : s.extract 0 s.size = s := by simp
 cases hq : prog.info? elem with
 | none => simp [hq] at hs
 | some i =>
  have hi : i.size = 1 := by simpa [hq] using hs
  have e3 : List.take s.size (List.map (fun b => Value.int .u8 (b.toNat : Int)) s.data.toList) = bytV s.data.toList := by unfold bytV; exact List.take_of_length_le (by simp)
  simp [Builtin.copy_, run_underlying hu, Builtin.lenOf, Builtin.firstCells, _root_.Go.sizeOf, typeInfo, hq, hi, hm, he, e3]
  rw [hst]; rfl
theorem x_Load_long (mb : Nat) (off : Int) (s : ByteArray) (h : 65536 < s.size) (w : World) :
 CS 23 #[.pointer (some ⟨mb, 0, none⟩), .int .i64 off, .string s] (.int .i64 1) w := by
 have q : decide (65536 < (s.size : Int)) = true := by simp; omega
 exact zq339
theorem x_Load_arg (mb rb : Nat) (X : XS) (hr : X.b.ram.length <= 65536) (off : Int) (s : ByteArray) (hs : s.size <= 65536) (h : off < 0 \/ (X.b.ram.length : Int) - s.size < off) (w) (hw : Hid (XAt w mb rb X)) :
 CS 23 #[.pointer (some ⟨mb, 0, none⟩), .int .i64 off, .string s] (.int .i64 2) w := by
 have q : decide (65536 < (s.size : Int)) = false := by simp; omega
 have c0 := hw.out.c0
 have hwr := wrap_in ((X.b.ram.length : Int) - s.size) (by omega)
 by_cases h0 : off < 0
 . have q1 : decide (off < 0) = true := by simp [h0]
   exact zq340
 . have q1 : decide (off < 0) = false := by simp; omega
   have q2 : decide ((X.b.ram.length : Int) - s.size < off) = true := by simp; omega
   exact zq340
def loadX (X : XS) (off : Nat) (s : ByteArray) : XS := urwX (setRam X (laidB X.b.ram off s.data.toList)) off s.size
theorem x_Load (mb rb X) (hX : XOk X) (off : Nat) (s : ByteArray) (h : off + s.size <= X.b.ram.length) (w) (hw : Hid (XAt w mb rb X)) :
 CX 23 #[.pointer (some ⟨mb, 0, none⟩), .int .i64 off, .string s] (.int .i64 0) [mb, rb] mb rb (loadX X off s) w := by
 have hr := hX.b.ram
 have q : decide (65536 < (s.size : Int)) = false := by simp; omega
 have q1 : decide ((off : Int) < 0) = false := by simp
 have q2 : decide ((X.b.ram.length : Int) - s.size < (off : Int)) = false := by simp; omega
 have hwr := wrap_in ((X.b.ram.length : Int) - s.size) (by omega)
 have c0 := hw.out.c0
 have hsl : ∃ o2, (∀ w, (Instr.slice 64 (.slice (some ⟨rb, 0, none⟩) X.b.ram.length X.b.ram.length) (some (.int .i64 (off : Int))) none none).run prog w = .ok (.slice (some ⟨rb, o2, none⟩) (X.b.ram.length - off) (X.b.ram.length - off)) w) /\ (s.size = 0 \/ o2 = off) := by
  have hr : ∀ w, (Instr.slice 64 (.slice (some ⟨rb, 0, none⟩) X.b.ram.length X.b.ram.length) (some (.int .i64 (off : Int))) none none).run prog w = .ok (.slice (if X.b.ram.length = off then some ⟨rb, 0, none⟩ else some ⟨rb, off, none⟩) (X.b.ram.length - off) (X.b.ram.length - off)) w := by
   intro w
   have hu : prog.underlying 64 = some (.slice (prog.elem 64)) := by kernel_rfl
   have h := run_slice_l (P := prog) w 64 (some ⟨rb, 0, none⟩) X.b.ram.length X.b.ram.length hu .i64 (off : Int) (by omega) (by omega)
   rw [h]
   have hz : (_root_.Go.sizeOf (prog.elem 64)).run prog w = .ok 1 w := by kernel_rfl
   rw [hz]
   simp only [Result.andThen, sliced]
   rw [show (off : Int).toNat = off by omega, Nat.mul_one, Option.map_some, Addr.add_mid rb 0 off, Nat.zero_add]
  by_cases hc : X.b.ram.length = off
  . exact ⟨0, fun w => by rw [hr w, if_pos hc], .inl (by omega)⟩
  . exact ⟨off, fun w => by rw [hr w, if_neg hc], .inr rfl⟩
 obtain ⟨o2, hsl, ho2⟩ := hsl
 have hcp : (Builtin.copy_ #[64, 9] 3 #[.slice (some ⟨rb, o2, none⟩) (X.b.ram.length - off) (X.b.ram.length - off), .string s]).run prog w = .ok (.int .i64 s.size) (w.setCells rb off (bytV s.data.toList)) := by
  have := run_copy_str w 64 9 3 5 rb o2 (X.b.ram.length - off) (X.b.ram.length - off) s Tryz.underlying64 infoU8 (by omega) (fun j hj => by
   rw [hw.out.ram (o2 + j) (by omega)]; rfl) (fun j _ => hw.out.rfro _)
  rw [this]
  rcases ho2 with h0 | h0
  . have hz : bytV s.data.toList = [] := List.eq_nil_of_length_eq_zero (by rw [bytV_len]; simpa using h0)
    rw [hz]; rfl
  . rw [h0]; rfl
 have hx1 := hide1 (XAt.laid s.data.toList off hw.out (by simpa using h))
 have hk1 : Hid (Kept [mb, rb] w (w.setCells rb off (bytV s.data.toList))) := hide1 (Kept.setCs _ (.inl (by simp)) _ _ _ (Kept.refl _ _))
 have hX1 : XOk (setRam X (laidB X.b.ram off s.data.toList)) := { hX with b := setRam_ok hX.b (laidB_length _ _ _) }
 have UW := hide1 (x_unreserveWritten mb rb _ hX1 off s.size (by omega) (by omega) _ hx1)
 unfold loadX
 obtain ⟨w1, hw1⟩ := zn1 (w.setCells rb off (bytV s.data.toList))
 rw [<- hw1] at hcp hk1 UW
 clear hX hX1 hw1 hx1 hw ho2 h
 go_enter func23, ntmps23
 go_wp2_with fail
 refine UW.out.mono ?_
 rintro o w2 ⟨rfl, hx2, hk2⟩
 go_wp2_with fail
 go_ret
 exact ⟨rfl, hx2, hk1.out.trans (hk2.mono (by simp))⟩
end
def portS (B : BusS) : ByteArray := ((((((leA B.enable 1 ++ leA B.scratch 1) ++ (if B.lost = true then ⟨#[33]⟩ else ⟨#[46]⟩)) ++ leA B.rx.size 1) ++ B.rx) ++ leA B.tx.size 1) ++ B.tx)
theorem x_portShow (B : BusS) (hr : B.rx.size <= 4) (ht : B.tx.size <= 8) (w : World) :
 CK 109 #[prtA B] (.string (portS B)) w := by
 unfold prtA portS
 obtain ⟨en, sc, lo, rx, tx, h5⟩ : ∃ a b c d e, a = B.enable /\ b = B.scratch /\ c = B.lost /\ d = B.rx /\ e = B.tx := ⟨_, _, _, _, _, rfl, rfl, rfl, rfl, rfl⟩
 obtain ⟨e1, e2, e3, e4, e5⟩ := h5
 simp only [<- e1, <- e2, <- e3, <- e4, <- e5] at *
 clear e1 e2 e3 e4 e5
 have L1 := fun W => hide1 (l_Le (en : Int) 1 (by decide) W)
 have L2 := fun W => hide1 (l_Le (sc : Int) 1 (by decide) W)
 have L3 := fun W => hide1 (x_eith lo ⟨#[33]⟩ ⟨#[46]⟩ W)
 have L4 := fun W => hide1 (l_Le (rx.size : Int) 1 (by decide) W)
 have L5 := fun W => hide1 (l_Le (tx.size : Int) 1 (by decide) W)
 have zo : (if lo = true then (⟨#[33]⟩ : ByteArray) else ⟨#[46]⟩).size = 1 := by cases lo <;> rfl
 have y1 := leA_size (en : Int) 1
 have y2 := leA_size (sc : Int) 1
 have y4 := leA_size (rx.size : Int) 1
 have y5 := leA_size (tx.size : Int) 1
 obtain ⟨u1, h1⟩ := zn1 (leA en 1)
 obtain ⟨u2, h2⟩ := zn1 (leA sc 1)
 obtain ⟨u3, h3⟩ := zn1 ((if lo = true then (⟨#[33]⟩ : ByteArray) else ⟨#[46]⟩))
 obtain ⟨u4, h4⟩ := zn1 (leA rx.size 1)
 obtain ⟨u5, h5⟩ := zn1 (leA tx.size 1)
 simp only [<- h1, <- h2, <- h3, <- h4, <- h5] at L1 L2 L3 L4 L5 zo y1 y2 y4 y5 |-
 obtain ⟨s1, g1, z1, a1⟩ := add_in u1 u2 (by omega)
 obtain ⟨s2, g2, z2, a2⟩ := add_in s1 u3 (by omega)
 obtain ⟨s3, g3, z3, a3⟩ := add_in s2 u4 (by omega)
 obtain ⟨s4, g4, z4, a4⟩ := add_in s3 rx (by omega)
 obtain ⟨s5, g5, z5, a5⟩ := add_in s4 u5 (by omega)
 obtain ⟨s6, g6, z6, a6⟩ := add_in s5 tx (by omega)
 rw [<- g1, <- g2, <- g3, <- g4, <- g5, <- g6]
 clear h1 h2 h3 h4 h5 g1 g2 g3 g4 g5 g6 z1 z2 z3 z4 z5 z6 zo y1 y2 y4 y5
 have bx0 : BoxAt (w.alloc (.cells #[.int .i64 en, .int .i64 sc, .bool lo, .string rx, .string tx] 75)).drew w.heap.size [.int .i64 en, .int .i64 sc, .bool lo, .string rx, .string tx] := (BoxAt.new w [.int .i64 en, .int .i64 sc, .bool lo, .string rx, .string tx] _).drew
 have hk0 : Kept [] w (w.alloc (.cells #[.int .i64 en, .int .i64 sc, .bool lo, .string rx, .string tx] 75)).drew := ((Kept.refl _ _).alloc _).drew
 go_enter func109, ntmps109
 go_upto_region 1 with fail
 go_region_held3 (fun w' => w'.cell? ⟨w.heap.size, 0, none⟩ = some (.int .i64 en) /\ w'.cell? ⟨w.heap.size, 1, none⟩ = some (.int .i64 sc) /\ w'.cell? ⟨w.heap.size, 2, none⟩ = some (.bool lo)) (first | go_keep | exact ⟨bx1.cell 0 _ rfl, bx1.cell 1 _ rfl, bx1.cell 2 _ rfl⟩ | exact ⟨bx2.cell 0 _ rfl, bx2.cell 1 _ rfl, bx2.cell 2 _ rfl⟩) (first | (go_at_call_of 147 (Value.int IntKind.i64 (en : Int)); refine (L1 _).out.mono ?_; rintro e w1 ⟨rfl, hk1⟩; have bx1 := bx0.more hk1) | (go_at_call_of 147 (Value.int IntKind.i64 (sc : Int)); refine (L2 _).out.mono ?_; rintro e w2 ⟨rfl, hk2⟩; have bx2 := bx1.more hk2) | (go_at_call 148; refine (L3 _).out.mono ?_; rintro e w3 ⟨rfl, rfl⟩))
 all_goals
  have bx3 := bx2.drew
  have d3 := bx2.cell 3 _ rfl
  have hk3 := ((hk0.trans hk1).trans hk2).drew
  clear bx0 bx1 hk0 hk1 hk2
  go_upto_region 2 with fail
  go_region_held3 (fun w' => w'.cell? ⟨w.heap.size, 3, none⟩ = some (.string rx)) (first | go_keep | exact bx4.cell 3 _ rfl) (first | (go_at_call 147; refine (L4 _).out.mono ?_; rintro e w4 ⟨rfl, hk4⟩; have bx4 := bx3.more hk4))
  all_goals
   have bx5 := bx4.drew
   have d4 := bx4.cell 4 _ rfl
   have hk5 := (hk3.trans hk4).drew
   clear bx3 hk3 hk4
   go_upto_region 3 with fail
   go_region_held3 (fun w' => w'.cell? ⟨w.heap.size, 4, none⟩ = some (.string tx)) (first | go_keep | exact bx6.cell 4 _ rfl) (first | (go_at_call 147; refine (L5 _).out.mono ?_; rintro e w6 ⟨rfl, hk6⟩; have bx6 := bx5.more hk6))
   all_goals
    go_wp2_with fail
    go_ret
    exact ⟨rfl, hk5.trans hk6⟩
def csrS (X : XS) : ByteArray := (((((((((((((((((((leA X.c.mstatus 4 ++ leA X.c.medeleg 4) ++ leA X.c.mideleg 4) ++ leA X.c.mie 4) ++ leA X.c.mip 4) ++ leA X.c.mtvec 4) ++ leA X.c.mcen 4) ++ leA X.c.minh 4) ++ leA X.c.mscratch 4) ++ leA X.c.mepc 4) ++ leA X.c.mcause 4) ++ leA X.c.mtval 4) ++ leA X.c.stvec 4) ++ leA X.c.scen 4) ++ leA X.c.sscratch 4) ++ leA X.c.sepc 4) ++ leA X.c.scause 4) ++ leA X.c.stval 4) ++ leA X.c.satp 4) ++ wideS X.c.cyc X.c.cych) ++ wideS X.c.ret X.c.reth
theorem x_csrShow' (v0 v1 v2 v3 v4 v5 v6 v7 v8 v9 v10 v11 v12 v13 v14 v15 v16 v17 v18 v19 v20 v21 v22 : Nat) (w : World) :
 CK 107 #[.agg #[.int .i64 v0, .int .i64 v1, .int .i64 v2, .int .i64 v3, .int .i64 v4, .int .i64 v5, .int .i64 v6, .int .i64 v7, .int .i64 v8, .int .i64 v9, .int .i64 v10, .int .i64 v11, .int .i64 v12, .int .i64 v13, .int .i64 v14, .int .i64 v15, .int .i64 v16, .int .i64 v17, .int .i64 v18, .int .i64 v19, .int .i64 v20, .int .i64 v21, .int .i64 v22]] (.string ((((((((((((((((((((leA v0 4 ++ leA v1 4) ++ leA v2 4) ++ leA v3 4) ++ leA v4 4) ++ leA v5 4) ++ leA v6 4) ++ leA v7 4) ++ leA v8 4) ++ leA v9 4) ++ leA v10 4) ++ leA v11 4) ++ leA v12 4) ++ leA v13 4) ++ leA v14 4) ++ leA v15 4) ++ leA v16 4) ++ leA v17 4) ++ leA v18 4) ++ wideS v19 v20) ++ wideS v21 v22)) w := by
 have L0 := fun W => hide1 (l_Le (v0 : Int) 4 (by decide) W)
 have y0 := leA_size (v0 : Int) 4
 have L1 := fun W => hide1 (l_Le (v1 : Int) 4 (by decide) W)
 have y1 := leA_size (v1 : Int) 4
 have L2 := fun W => hide1 (l_Le (v2 : Int) 4 (by decide) W)
 have y2 := leA_size (v2 : Int) 4
 have L3 := fun W => hide1 (l_Le (v3 : Int) 4 (by decide) W)
 have y3 := leA_size (v3 : Int) 4
 have L4 := fun W => hide1 (l_Le (v4 : Int) 4 (by decide) W)
 have y4 := leA_size (v4 : Int) 4
 have L5 := fun W => hide1 (l_Le (v5 : Int) 4 (by decide) W)
 have y5 := leA_size (v5 : Int) 4
 have L6 := fun W => hide1 (l_Le (v6 : Int) 4 (by decide) W)
 have y6 := leA_size (v6 : Int) 4
 have L7 := fun W => hide1 (l_Le (v7 : Int) 4 (by decide) W)
 have y7 := leA_size (v7 : Int) 4
 have L8 := fun W => hide1 (l_Le (v8 : Int) 4 (by decide) W)
 have y8 := leA_size (v8 : Int) 4
 have L9 := fun W => hide1 (l_Le (v9 : Int) 4 (by decide) W)
 have y9 := leA_size (v9 : Int) 4
 have L10 := fun W => hide1 (l_Le (v10 : Int) 4 (by decide) W)
 have y10 := leA_size (v10 : Int) 4
 have L11 := fun W => hide1 (l_Le (v11 : Int) 4 (by decide) W)
 have y11 := leA_size (v11 : Int) 4
 have L12 := fun W => hide1 (l_Le (v12 : Int) 4 (by decide) W)
 have y12 := leA_size (v12 : Int) 4
 have L13 := fun W => hide1 (l_Le (v13 : Int) 4 (by decide) W)
 have y13 := leA_size (v13 : Int) 4
 have L14 := fun W => hide1 (l_Le (v14 : Int) 4 (by decide) W)
 have y14 := leA_size (v14 : Int) 4
 have L15 := fun W => hide1 (l_Le (v15 : Int) 4 (by decide) W)
 have y15 := leA_size (v15 : Int) 4
 have L16 := fun W => hide1 (l_Le (v16 : Int) 4 (by decide) W)
 have y16 := leA_size (v16 : Int) 4
 have L17 := fun W => hide1 (l_Le (v17 : Int) 4 (by decide) W)
 have y17 := leA_size (v17 : Int) 4
 have L18 := fun W => hide1 (l_Le (v18 : Int) 4 (by decide) W)
 have y18 := leA_size (v18 : Int) 4
 have L19 := fun W => hide1 (x_wideShow v19 v20 W)
 have y19 := wideS_size v19 v20
 have L20 := fun W => hide1 (x_wideShow v21 v22 W)
 have y20 := wideS_size v21 v22
 obtain ⟨u0, h0⟩ := zn1 (leA v0 4)
 simp only [<- h0] at L0 y0 |-
 obtain ⟨u1, h1⟩ := zn1 (leA v1 4)
 simp only [<- h1] at L1 y1 |-
 obtain ⟨u2, h2⟩ := zn1 (leA v2 4)
 simp only [<- h2] at L2 y2 |-
 obtain ⟨u3, h3⟩ := zn1 (leA v3 4)
 simp only [<- h3] at L3 y3 |-
 obtain ⟨u4, h4⟩ := zn1 (leA v4 4)
 simp only [<- h4] at L4 y4 |-
 obtain ⟨u5, h5⟩ := zn1 (leA v5 4)
 simp only [<- h5] at L5 y5 |-
 obtain ⟨u6, h6⟩ := zn1 (leA v6 4)
 simp only [<- h6] at L6 y6 |-
 obtain ⟨u7, h7⟩ := zn1 (leA v7 4)
 simp only [<- h7] at L7 y7 |-
 obtain ⟨u8, h8⟩ := zn1 (leA v8 4)
 simp only [<- h8] at L8 y8 |-
 obtain ⟨u9, h9⟩ := zn1 (leA v9 4)
 simp only [<- h9] at L9 y9 |-
 obtain ⟨u10, h10⟩ := zn1 (leA v10 4)
 simp only [<- h10] at L10 y10 |-
 obtain ⟨u11, h11⟩ := zn1 (leA v11 4)
 simp only [<- h11] at L11 y11 |-
 obtain ⟨u12, h12⟩ := zn1 (leA v12 4)
 simp only [<- h12] at L12 y12 |-
 obtain ⟨u13, h13⟩ := zn1 (leA v13 4)
 simp only [<- h13] at L13 y13 |-
 obtain ⟨u14, h14⟩ := zn1 (leA v14 4)
 simp only [<- h14] at L14 y14 |-
 obtain ⟨u15, h15⟩ := zn1 (leA v15 4)
 simp only [<- h15] at L15 y15 |-
 obtain ⟨u16, h16⟩ := zn1 (leA v16 4)
 simp only [<- h16] at L16 y16 |-
 obtain ⟨u17, h17⟩ := zn1 (leA v17 4)
 simp only [<- h17] at L17 y17 |-
 obtain ⟨u18, h18⟩ := zn1 (leA v18 4)
 simp only [<- h18] at L18 y18 |-
 obtain ⟨u19, h19⟩ := zn1 (wideS v19 v20)
 simp only [<- h19] at L19 y19 |-
 obtain ⟨u20, h20⟩ := zn1 (wideS v21 v22)
 simp only [<- h20] at L20 y20 |-
 obtain ⟨s1, g1, z1, a1⟩ := add_in u0 u1 (by omega)
 obtain ⟨s2, g2, z2, a2⟩ := add_in s1 u2 (by omega)
 obtain ⟨s3, g3, z3, a3⟩ := add_in s2 u3 (by omega)
 obtain ⟨s4, g4, z4, a4⟩ := add_in s3 u4 (by omega)
 obtain ⟨s5, g5, z5, a5⟩ := add_in s4 u5 (by omega)
 obtain ⟨s6, g6, z6, a6⟩ := add_in s5 u6 (by omega)
 obtain ⟨s7, g7, z7, a7⟩ := add_in s6 u7 (by omega)
 obtain ⟨s8, g8, z8, a8⟩ := add_in s7 u8 (by omega)
 obtain ⟨s9, g9, z9, a9⟩ := add_in s8 u9 (by omega)
 obtain ⟨s10, g10, z10, a10⟩ := add_in s9 u10 (by omega)
 obtain ⟨s11, g11, z11, a11⟩ := add_in s10 u11 (by omega)
 obtain ⟨s12, g12, z12, a12⟩ := add_in s11 u12 (by omega)
 obtain ⟨s13, g13, z13, a13⟩ := add_in s12 u13 (by omega)
 obtain ⟨s14, g14, z14, a14⟩ := add_in s13 u14 (by omega)
 obtain ⟨s15, g15, z15, a15⟩ := add_in s14 u15 (by omega)
 obtain ⟨s16, g16, z16, a16⟩ := add_in s15 u16 (by omega)
 obtain ⟨s17, g17, z17, a17⟩ := add_in s16 u17 (by omega)
 obtain ⟨s18, g18, z18, a18⟩ := add_in s17 u18 (by omega)
 obtain ⟨s19, g19, z19, a19⟩ := add_in s18 u19 (by omega)
 obtain ⟨s20, g20, z20, a20⟩ := add_in s19 u20 (by omega)
 rw [<- g1]
 rw [<- g2]
 rw [<- g3]
 rw [<- g4]
 rw [<- g5]
 rw [<- g6]
 rw [<- g7]
 rw [<- g8]
 rw [<- g9]
 rw [<- g10]
 rw [<- g11]
 rw [<- g12]
 rw [<- g13]
 rw [<- g14]
 rw [<- g15]
 rw [<- g16]
 rw [<- g17]
 rw [<- g18]
 rw [<- g19]
 rw [<- g20]
 clear h0 h1 h2 h3 h4 h5 h6 h7 h8 h9 h10 h11 h12 h13 h14 h15 h16 h17 h18 h19 h20 g1 z1 g2 z2 g3 z3 g4 z4 g5 z5 g6 z6 g7 z7 g8 z8 g9 z9 g10 z10 g11 z11 g12 z12 g13 z13 g14 z14 g15 z15 g16 z16 g17 z17 g18 z18 g19 z19 g20 z20 y0 y1 y2 y3 y4 y5 y6 y7 y8 y9 y10 y11 y12 y13 y14 y15 y16 y17 y18 y19 y20
 have bx0 : BoxAt (w.alloc (.cells #[.int .i64 v0, .int .i64 v1, .int .i64 v2, .int .i64 v3, .int .i64 v4, .int .i64 v5, .int .i64 v6, .int .i64 v7, .int .i64 v8, .int .i64 v9, .int .i64 v10, .int .i64 v11, .int .i64 v12, .int .i64 v13, .int .i64 v14, .int .i64 v15, .int .i64 v16, .int .i64 v17, .int .i64 v18, .int .i64 v19, .int .i64 v20, .int .i64 v21, .int .i64 v22] 71)).drew w.heap.size [.int .i64 v0, .int .i64 v1, .int .i64 v2, .int .i64 v3, .int .i64 v4, .int .i64 v5, .int .i64 v6, .int .i64 v7, .int .i64 v8, .int .i64 v9, .int .i64 v10, .int .i64 v11, .int .i64 v12, .int .i64 v13, .int .i64 v14, .int .i64 v15, .int .i64 v16, .int .i64 v17, .int .i64 v18, .int .i64 v19, .int .i64 v20, .int .i64 v21, .int .i64 v22] := (BoxAt.new w [.int .i64 v0, .int .i64 v1, .int .i64 v2, .int .i64 v3, .int .i64 v4, .int .i64 v5, .int .i64 v6, .int .i64 v7, .int .i64 v8, .int .i64 v9, .int .i64 v10, .int .i64 v11, .int .i64 v12, .int .i64 v13, .int .i64 v14, .int .i64 v15, .int .i64 v16, .int .i64 v17, .int .i64 v18, .int .i64 v19, .int .i64 v20, .int .i64 v21, .int .i64 v22] _).drew
 have hk0 : Kept [] w (w.alloc (.cells #[.int .i64 v0, .int .i64 v1, .int .i64 v2, .int .i64 v3, .int .i64 v4, .int .i64 v5, .int .i64 v6, .int .i64 v7, .int .i64 v8, .int .i64 v9, .int .i64 v10, .int .i64 v11, .int .i64 v12, .int .i64 v13, .int .i64 v14, .int .i64 v15, .int .i64 v16, .int .i64 v17, .int .i64 v18, .int .i64 v19, .int .i64 v20, .int .i64 v21, .int .i64 v22] 71)).drew := ((Kept.refl _ _).alloc _).drew
 go_enter func107, ntmps107
 go_upto_region 1 with fail
 go_region_held3 (fun w' => w'.cell? ⟨w.heap.size, 0, none⟩ = some (.int .i64 v0) /\ w'.cell? ⟨w.heap.size, 1, none⟩ = some (.int .i64 v1) /\ w'.cell? ⟨w.heap.size, 2, none⟩ = some (.int .i64 v2) /\ w'.cell? ⟨w.heap.size, 3, none⟩ = some (.int .i64 v3) /\ w'.cell? ⟨w.heap.size, 4, none⟩ = some (.int .i64 v4)) (first | go_keep | exact ⟨bx1.cell 0 _ rfl, bx1.cell 1 _ rfl, bx1.cell 2 _ rfl, bx1.cell 3 _ rfl, bx1.cell 4 _ rfl⟩ | exact ⟨bx2.cell 0 _ rfl, bx2.cell 1 _ rfl, bx2.cell 2 _ rfl, bx2.cell 3 _ rfl, bx2.cell 4 _ rfl⟩ | exact ⟨bx3.cell 0 _ rfl, bx3.cell 1 _ rfl, bx3.cell 2 _ rfl, bx3.cell 3 _ rfl, bx3.cell 4 _ rfl⟩ | exact ⟨bx4.cell 0 _ rfl, bx4.cell 1 _ rfl, bx4.cell 2 _ rfl, bx4.cell 3 _ rfl, bx4.cell 4 _ rfl⟩ | exact ⟨bx5.cell 0 _ rfl, bx5.cell 1 _ rfl, bx5.cell 2 _ rfl, bx5.cell 3 _ rfl, bx5.cell 4 _ rfl⟩) (first | (go_at_call_of 147 (Value.int IntKind.i64 (v0 : Int)); refine (L0 _).out.mono ?_; rintro e w1 ⟨rfl, kk1⟩; have bx1 := bx0.more kk1) | (go_at_call_of 147 (Value.int IntKind.i64 (v1 : Int)); refine (L1 _).out.mono ?_; rintro e w2 ⟨rfl, kk2⟩; have bx2 := bx1.more kk2) | (go_at_call_of 147 (Value.int IntKind.i64 (v2 : Int)); refine (L2 _).out.mono ?_; rintro e w3 ⟨rfl, kk3⟩; have bx3 := bx2.more kk3) | (go_at_call_of 147 (Value.int IntKind.i64 (v3 : Int)); refine (L3 _).out.mono ?_; rintro e w4 ⟨rfl, kk4⟩; have bx4 := bx3.more kk4) | (go_at_call_of 147 (Value.int IntKind.i64 (v4 : Int)); refine (L4 _).out.mono ?_; rintro e w5 ⟨rfl, kk5⟩; have bx5 := bx4.more kk5))
 all_goals
  have by1 := bx5.drew
  have hk1 := (((((hk0.trans kk1).trans kk2).trans kk3).trans kk4).trans kk5).drew
  have d1_5 := bx5.cell 5 _ rfl
  have d1_6 := bx5.cell 6 _ rfl
  have d1_7 := bx5.cell 7 _ rfl
  clear bx0 hk0 bx1 bx2 bx3 bx4 bx5 kk1 kk2 kk3 kk4 kk5
  go_upto_region 2 with fail
  go_region_held3 (fun w' => w'.cell? ⟨w.heap.size, 5, none⟩ = some (.int .i64 v5) /\ w'.cell? ⟨w.heap.size, 6, none⟩ = some (.int .i64 v6) /\ w'.cell? ⟨w.heap.size, 7, none⟩ = some (.int .i64 v7)) (first | go_keep | exact ⟨bx6.cell 5 _ rfl, bx6.cell 6 _ rfl, bx6.cell 7 _ rfl⟩ | exact ⟨bx7.cell 5 _ rfl, bx7.cell 6 _ rfl, bx7.cell 7 _ rfl⟩ | exact ⟨bx8.cell 5 _ rfl, bx8.cell 6 _ rfl, bx8.cell 7 _ rfl⟩) (first | (go_at_call_of 147 (Value.int IntKind.i64 (v5 : Int)); refine (L5 _).out.mono ?_; rintro e w6 ⟨rfl, kk6⟩; have bx6 := by1.more kk6) | (go_at_call_of 147 (Value.int IntKind.i64 (v6 : Int)); refine (L6 _).out.mono ?_; rintro e w7 ⟨rfl, kk7⟩; have bx7 := bx6.more kk7) | (go_at_call_of 147 (Value.int IntKind.i64 (v7 : Int)); refine (L7 _).out.mono ?_; rintro e w8 ⟨rfl, kk8⟩; have bx8 := bx7.more kk8))
  all_goals
   have by2 := bx8.drew
   have hk2 := (((hk1.trans kk6).trans kk7).trans kk8).drew
   have d2_8 := bx8.cell 8 _ rfl
   have d2_9 := bx8.cell 9 _ rfl
   have d2_10 := bx8.cell 10 _ rfl
   have d2_11 := bx8.cell 11 _ rfl
   clear by1 hk1 bx6 bx7 bx8 kk6 kk7 kk8
   go_upto_region 3 with fail
   go_region_held3 (fun w' => w'.cell? ⟨w.heap.size, 8, none⟩ = some (.int .i64 v8) /\ w'.cell? ⟨w.heap.size, 9, none⟩ = some (.int .i64 v9) /\ w'.cell? ⟨w.heap.size, 10, none⟩ = some (.int .i64 v10) /\ w'.cell? ⟨w.heap.size, 11, none⟩ = some (.int .i64 v11)) (first | go_keep | exact ⟨bx9.cell 8 _ rfl, bx9.cell 9 _ rfl, bx9.cell 10 _ rfl, bx9.cell 11 _ rfl⟩ | exact ⟨bx10.cell 8 _ rfl, bx10.cell 9 _ rfl, bx10.cell 10 _ rfl, bx10.cell 11 _ rfl⟩ | exact ⟨bx11.cell 8 _ rfl, bx11.cell 9 _ rfl, bx11.cell 10 _ rfl, bx11.cell 11 _ rfl⟩ | exact ⟨bx12.cell 8 _ rfl, bx12.cell 9 _ rfl, bx12.cell 10 _ rfl, bx12.cell 11 _ rfl⟩) (first | (go_at_call_of 147 (Value.int IntKind.i64 (v8 : Int)); refine (L8 _).out.mono ?_; rintro e w9 ⟨rfl, kk9⟩; have bx9 := by2.more kk9) | (go_at_call_of 147 (Value.int IntKind.i64 (v9 : Int)); refine (L9 _).out.mono ?_; rintro e w10 ⟨rfl, kk10⟩; have bx10 := bx9.more kk10) | (go_at_call_of 147 (Value.int IntKind.i64 (v10 : Int)); refine (L10 _).out.mono ?_; rintro e w11 ⟨rfl, kk11⟩; have bx11 := bx10.more kk11) | (go_at_call_of 147 (Value.int IntKind.i64 (v11 : Int)); refine (L11 _).out.mono ?_; rintro e w12 ⟨rfl, kk12⟩; have bx12 := bx11.more kk12))
   all_goals
    have by3 := bx12.drew
    have hk3 := ((((hk2.trans kk9).trans kk10).trans kk11).trans kk12).drew
    have d3_12 := bx12.cell 12 _ rfl
    have d3_13 := bx12.cell 13 _ rfl
    clear by2 hk2 bx9 bx10 bx11 bx12 kk9 kk10 kk11 kk12
    go_upto_region 4 with fail
    go_region_held3 (fun w' => w'.cell? ⟨w.heap.size, 12, none⟩ = some (.int .i64 v12) /\ w'.cell? ⟨w.heap.size, 13, none⟩ = some (.int .i64 v13)) (first | go_keep | exact ⟨bx13.cell 12 _ rfl, bx13.cell 13 _ rfl⟩ | exact ⟨bx14.cell 12 _ rfl, bx14.cell 13 _ rfl⟩) (first | (go_at_call_of 147 (Value.int IntKind.i64 (v12 : Int)); refine (L12 _).out.mono ?_; rintro e w13 ⟨rfl, kk13⟩; have bx13 := by3.more kk13) | (go_at_call_of 147 (Value.int IntKind.i64 (v13 : Int)); refine (L13 _).out.mono ?_; rintro e w14 ⟨rfl, kk14⟩; have bx14 := bx13.more kk14))
    all_goals
     have by4 := bx14.drew
     have hk4 := ((hk3.trans kk13).trans kk14).drew
     have d4_14 := bx14.cell 14 _ rfl
     have d4_15 := bx14.cell 15 _ rfl
     have d4_16 := bx14.cell 16 _ rfl
     have d4_17 := bx14.cell 17 _ rfl
     clear by3 hk3 bx13 bx14 kk13 kk14
     go_upto_region 5 with fail
     go_region_held3 (fun w' => w'.cell? ⟨w.heap.size, 14, none⟩ = some (.int .i64 v14) /\ w'.cell? ⟨w.heap.size, 15, none⟩ = some (.int .i64 v15) /\ w'.cell? ⟨w.heap.size, 16, none⟩ = some (.int .i64 v16) /\ w'.cell? ⟨w.heap.size, 17, none⟩ = some (.int .i64 v17)) (first | go_keep | exact ⟨bx15.cell 14 _ rfl, bx15.cell 15 _ rfl, bx15.cell 16 _ rfl, bx15.cell 17 _ rfl⟩ | exact ⟨bx16.cell 14 _ rfl, bx16.cell 15 _ rfl, bx16.cell 16 _ rfl, bx16.cell 17 _ rfl⟩ | exact ⟨bx17.cell 14 _ rfl, bx17.cell 15 _ rfl, bx17.cell 16 _ rfl, bx17.cell 17 _ rfl⟩ | exact ⟨bx18.cell 14 _ rfl, bx18.cell 15 _ rfl, bx18.cell 16 _ rfl, bx18.cell 17 _ rfl⟩) (first | (go_at_call_of 147 (Value.int IntKind.i64 (v14 : Int)); refine (L14 _).out.mono ?_; rintro e w15 ⟨rfl, kk15⟩; have bx15 := by4.more kk15) | (go_at_call_of 147 (Value.int IntKind.i64 (v15 : Int)); refine (L15 _).out.mono ?_; rintro e w16 ⟨rfl, kk16⟩; have bx16 := bx15.more kk16) | (go_at_call_of 147 (Value.int IntKind.i64 (v16 : Int)); refine (L16 _).out.mono ?_; rintro e w17 ⟨rfl, kk17⟩; have bx17 := bx16.more kk17) | (go_at_call_of 147 (Value.int IntKind.i64 (v17 : Int)); refine (L17 _).out.mono ?_; rintro e w18 ⟨rfl, kk18⟩; have bx18 := bx17.more kk18))
     all_goals
      have by5 := bx18.drew
      have hk5 := ((((hk4.trans kk15).trans kk16).trans kk17).trans kk18).drew
      have d5_18 := bx18.cell 18 _ rfl
      have d5_19 := bx18.cell 19 _ rfl
      have d5_20 := bx18.cell 20 _ rfl
      have d5_21 := bx18.cell 21 _ rfl
      have d5_22 := bx18.cell 22 _ rfl
      clear by4 hk4 bx15 bx16 bx17 bx18 kk15 kk16 kk17 kk18
      go_upto_region 6 with fail
      go_region_held3 (fun w' => w'.cell? ⟨w.heap.size, 18, none⟩ = some (.int .i64 v18) /\ w'.cell? ⟨w.heap.size, 19, none⟩ = some (.int .i64 v19) /\ w'.cell? ⟨w.heap.size, 20, none⟩ = some (.int .i64 v20) /\ w'.cell? ⟨w.heap.size, 21, none⟩ = some (.int .i64 v21) /\ w'.cell? ⟨w.heap.size, 22, none⟩ = some (.int .i64 v22)) (first | go_keep | exact ⟨bx19.cell 18 _ rfl, bx19.cell 19 _ rfl, bx19.cell 20 _ rfl, bx19.cell 21 _ rfl, bx19.cell 22 _ rfl⟩ | exact ⟨bx20.cell 18 _ rfl, bx20.cell 19 _ rfl, bx20.cell 20 _ rfl, bx20.cell 21 _ rfl, bx20.cell 22 _ rfl⟩ | exact ⟨bx21.cell 18 _ rfl, bx21.cell 19 _ rfl, bx21.cell 20 _ rfl, bx21.cell 21 _ rfl, bx21.cell 22 _ rfl⟩) (first | (go_at_call_of 147 (Value.int IntKind.i64 (v18 : Int)); refine (L18 _).out.mono ?_; rintro e w19 ⟨rfl, kk19⟩; have bx19 := by5.more kk19) | (go_at_call_of 149 (Value.agg #[Value.int IntKind.i64 (v19 : Int), Value.int IntKind.i64 (v20 : Int)]); refine (L19 _).out.mono ?_; rintro e w20 ⟨rfl, kk20⟩; have bx20 := bx19.more kk20) | (go_at_call_of 149 (Value.agg #[Value.int IntKind.i64 (v21 : Int), Value.int IntKind.i64 (v22 : Int)]); refine (L20 _).out.mono ?_; rintro e w21 ⟨rfl, kk21⟩; have bx21 := bx20.more kk21))
      all_goals
       go_wp2_with fail
       go_ret
       exact ⟨rfl, (((hk5.trans kk19).trans kk20).trans kk21)⟩
theorem x_csrShow (X : XS) (w : World) : CK 107 #[.agg (csL X).toArray] (.string (csrS X)) w :=
 x_csrShow' X.c.mstatus X.c.medeleg X.c.mideleg X.c.mie X.c.mip X.c.mtvec X.c.mcen X.c.minh X.c.mscratch X.c.mepc X.c.mcause X.c.mtval X.c.stvec X.c.scen X.c.sscratch X.c.sepc X.c.scause X.c.stval X.c.satp X.c.cyc X.c.cych X.c.ret X.c.reth w
def regG (x : List Nat) : Nat -> Nat -> ByteArray -> ByteArray
 | 0, _, s => s
 | n + 1, k, s => regG x n (k + 1) (s ++ leA (x.getD k 0) 4)
theorem regG_size (x : List Nat) : ∀ (n k : Nat) (s : ByteArray), (regG x n k s).size = s.size + 4 * n
 | 0, _, _ => rfl
 | n + 1, k, s => by
  rw [regG, regG_size x n, ByteArray.size_append, leA_size]; omega
def hartS (X : XS) : ByteArray := (((regG X.x 32 0 (leA X.pc 4) ++ (if X.waits = true then ⟨#[119]⟩ else ⟨#[45]⟩)) ++ (if X.resd = true then ⟨#[114]⟩ else ⟨#[45]⟩)) ++ leA X.resv 5) ++ leA X.mode 1
structure HartL (X : XS) (cs : List Value) : Prop where
 x : ∀ k, k < 32 -> cs[k]? = some (.int .i64 (X.x.getD k 0))
 pc : cs[32]? = some (.int .i64 X.pc)
 mode : cs[33]? = some (.int .i64 X.mode)
 waits : cs[34]? = some (.bool X.waits)
 resd : cs[35]? = some (.bool X.resd)
 resv : cs[36]? = some (.int .i64 X.resv)
 len : cs.length = 37
theorem x_hartShow' (X : XS) (cs : List Value) (hc : Hid (HartL X cs)) (w : World) :
 CK 106 #[.agg cs.toArray] (.string (hartS X)) w := by
 have L1 := fun W => hide1 (l_Le (X.pc : Int) 4 (by decide) W)
 have y1 := leA_size (X.pc : Int) 4
 obtain ⟨u1, h1⟩ := zn1 (leA X.pc 4)
 unfold hartS
 simp only [<- h1] at L1 y1 |-
 clear h1
 have HL := hide1 hc.out.len
 have bx0 := BoxAt.new w cs 67
 have c32 := hc.out.pc
 have hk0 : Kept [] w (w.alloc (.cells cs.toArray 67)) := zq136
 obtain ⟨T, hT⟩ := zn1 (regG X.x 32 0 u1)
 have zT : T.size = 132 := by rw [hT, regG_size]; omega
 rw [<- hT]
 have HT := hide1 hT
 clear hT
 have L2 := fun W => hide1 (x_eith X.waits ⟨#[119]⟩ ⟨#[45]⟩ W)
 have L3 := fun W => hide1 (x_eith X.resd ⟨#[114]⟩ ⟨#[45]⟩ W)
 have L4 := fun W => hide1 (l_Le (X.resv : Int) 5 (by decide) W)
 have L5 := fun W => hide1 (l_Le (X.mode : Int) 1 (by decide) W)
 have y2 : (if X.waits = true then (⟨#[119]⟩ : ByteArray) else ⟨#[45]⟩).size = 1 := by cases X.waits <;> rfl
 have y3 : (if X.resd = true then (⟨#[114]⟩ : ByteArray) else ⟨#[45]⟩).size = 1 := by cases X.resd <;> rfl
 have y4 := leA_size (X.resv : Int) 5
 have y5 := leA_size (X.mode : Int) 1
 obtain ⟨u2, h2⟩ := zn1 ((if X.waits = true then (⟨#[119]⟩ : ByteArray) else ⟨#[45]⟩))
 obtain ⟨u3, h3⟩ := zn1 ((if X.resd = true then (⟨#[114]⟩ : ByteArray) else ⟨#[45]⟩))
 obtain ⟨u4, h4⟩ := zn1 (leA X.resv 5)
 obtain ⟨u5, h5⟩ := zn1 (leA X.mode 1)
 simp only [<- h2, <- h3, <- h4, <- h5] at L2 L3 L4 L5 y2 y3 y4 y5 |-
 obtain ⟨s2, g2, z2, a2⟩ := add_in T u2 (by omega)
 obtain ⟨s3, g3, z3, a3⟩ := add_in s2 u3 (by omega)
 obtain ⟨s4, g4, z4, a4⟩ := add_in s3 u4 (by omega)
 obtain ⟨s5, g5, z5, a5⟩ := add_in s4 u5 (by omega)
 rw [<- g2, <- g3, <- g4, <- g5]
 clear h2 h3 h4 h5 g2 g3 g4 g5 z2 z3 z4 z5 y2 y3 y4 y5
 obtain ⟨pc, hpc⟩ := zn1 (X.pc)
 have c33 := hc.out.mode
 have c34 := hc.out.waits
 have c35 := hc.out.resd
 have c36 := hc.out.resv
 go_enter func106, ntmps106
 go_wp2_with fail
 refine (L1 _).out.mono ?_
 rintro e w1 ⟨rfl, hk1⟩
 have bx1 := hide1 (bx0.more hk1)
 have hk2 := hide1 (hk0.trans hk1)
 clear bx0 hk0 hk1 L1 c32
 go_wp2_with fail
 go_loopw [3, 4] (fun c d wr => ∃ (k : Nat) (t : ByteArray), k <= 32 /\ c = .string t /\ d = .int .i64 k /\ Hid (t.size = 4 + 4 * k) /\ Hid (BoxAt wr w.heap.size cs) /\ Hid (Kept [] w wr) /\ Hid (T = regG X.x (32 - k) k t)) (fun _ d _ => 32 - (intOf d).toNat)
 case atStart => exact ⟨0, u1, by omega, rfl, rfl, hide1 (by omega), bx1, hk2, HT⟩
 case round =>
  obtain ⟨k, t, hk, rfl, rfl, hts, hb, hkr, hg⟩ := hrel
  clear HT bx1 hk2
  by_cases hlt : k < 32
  . have hlt' : decide ((k : Int) < 32) = true := by simp; omega
    have ck := hb.out.cell k _ (hc.out.x k hlt)
    obtain ⟨v, hv⟩ := zn1 (X.x.getD k 0)
    have hg2 : Hid (T = regG X.x (32 - (k + 1)) (k + 1) (t ++ leA v 4)) := by
     show T = _
     rw [hg.out, show 32 - k = (32 - (k + 1)) + 1 by omega, hv]; rfl
    rw [<- hv] at ck
    have LV := fun W => hide1 (l_Le (v : Int) 4 (by decide) W)
    have yv := leA_size (v : Int) 4
    obtain ⟨u, hu⟩ := zn1 (leA v 4)
    rw [<- hu] at hg2 yv
    simp only [<- hu] at LV
    have htz := hts.out
    obtain ⟨t2, gt, zt, at2⟩ := add_in t u (by omega)
    rw [<- gt] at hg2
    have hz2 : Hid (t2.size = 4 + 4 * (k + 1)) := hide1 (by omega)
    clear hg hv hu gt zt htz hts yv
    have hkk : (k : Int) < 32 := by omega
    go_wp2_with fail
    refine (LV _).out.mono ?_
    rintro e w2 ⟨rfl, hk2⟩
    have hb2 := hide1 (hb.out.more hk2)
    have hkr2 := hide1 (hkr.out.trans hk2)
    go_wp2_with fail
    go_roundw
    case rel => exact ⟨k + 1, t2, by omega, rfl, by go_num, hz2, hb2, hkr2, hg2⟩
    case measure => exact zq191
  . have hlt' : decide ((k : Int) < 32) = false := by simp; omega
    have hTT : T = t := by rw [hg.out, show 32 - k = 0 by omega]; rfl
    subst hTT
    have d34 := hb.out.cell 34 _ c34
    have d35 := hb.out.cell 35 _ c35
    have d33 := hb.out.cell 33 _ c33
    have d36 := hb.out.cell 36 _ c36
    clear hg hts zT
    obtain ⟨wa, hwa⟩ := zn1 (X.waits)
    obtain ⟨re, hre⟩ := zn1 (X.resd)
    obtain ⟨rv, hrv⟩ := zn1 (X.resv)
    obtain ⟨mo, hmo⟩ := zn1 (X.mode)
    simp only [<- hwa, <- hre, <- hrv, <- hmo] at *
    clear hwa hre hrv hmo hc
    go_upto_region 6 with fail
    go_region_held3 (fun w' => w'.cell? ⟨w.heap.size, 34, none⟩ = some (.bool wa) /\ w'.cell? ⟨w.heap.size, 35, none⟩ = some (.bool re)) (go_keep) (first | (go_at_call_of 148 (Value.bool wa); refine (L2 _).out.mono ?_; rintro e w3 ⟨rfl, rfl⟩) | (go_at_call_of 148 (Value.bool re); refine (L3 _).out.mono ?_; rintro e w4 ⟨rfl, rfl⟩))
    all_goals
     have bx5 := hb.out.drew.drew
     have hk5 := hkr.out.drew.drew
     go_upto_region 7 with fail
     go_region_held3 (fun w' => w'.cell? ⟨w.heap.size, 36, none⟩ = some (.int .i64 rv) /\ w'.cell? ⟨w.heap.size, 33, none⟩ = some (.int .i64 mo)) (first | go_keep | exact ⟨bx6.cell 36 _ c36, bx6.cell 33 _ c33⟩ | exact ⟨bx7.cell 36 _ c36, bx7.cell 33 _ c33⟩) (first | (go_at_call_of 147 (Value.int IntKind.i64 (rv : Int)); refine (L4 _).out.mono ?_; rintro e w6 ⟨rfl, hk6⟩; have bx6 := bx5.more hk6) | (go_at_call_of 147 (Value.int IntKind.i64 (mo : Int)); refine (L5 _).out.mono ?_; rintro e w7 ⟨rfl, hk7⟩; have bx7 := bx6.more hk7))
     all_goals
      go_wp2_with fail
      go_ret
      exact ⟨rfl, (hk5.trans hk6).trans hk7⟩
end Go.Proofs.YtmlgonbhoknoiabGreatDoor
