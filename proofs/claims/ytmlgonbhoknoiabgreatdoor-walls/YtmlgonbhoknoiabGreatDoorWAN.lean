import Derived.Test.YtmlgonbhoknoiabGreatDoorWAM
set_option maxHeartbeats 8000000
set_option linter.all false
namespace Go.Proofs.YtmlgonbhoknoiabGreatDoor
open Go.RowKit Go.Proofs.Tryz
section
attribute [local go_sem ↓] Go.wp_at_zero Go.wp_at_succ
theorem fetch_len (B : BusS) (C : CsrS) (pc : Nat) : (fetchD B C pc).2.ram.length = B.ram.length := by
 unfold fetchD
 have h1 := half_len B C pc
 have h2 := half_len (halfD B C pc).2 C ((pc + 2) % 4294967296)
 split
 . split
   . split
     . exact h2.trans h1
     . exact h2.trans h1
   . exact h1
 . exact h1
theorem setXR_b (Y : XS) (d u : Nat) : (setXR Y d u).b = Y.b := by unfold setXR; split <;> rfl
theorem cro_len (X : XS) (N : NI) (v : Nat) : (croX X N v).2.b.ram.length = X.b.ram.length := by
 unfold croX
 split
 . rw [setXR_b]
 split
 . rfl
 split
 . unfold ldX
   have h := reach_len X.b (xC X) (vaD X N) (nD N.op) 1
   generalize reachD X.b (xC X) (vaD X N) (nD N.op) 1 = S at h
   unfold ldF; split
   . rw [setXR_b]; exact (load_len _ _).trans h
   . exact h
 split
 . unfold stX
   have h := reach_len X.b (xC X) (vaD X N) (nD N.op) 2
   generalize reachD X.b (xC X) (vaD X N) (nD N.op) 2 = S at h
   unfold stF; split
   . exact (store_len _ _ _).trans h
   . exact h
 split
 . unfold atX
   split
   . have h := wordAt_len X.b (xC X) (X.x.getD N.rs1 0) (kD N.op)
     generalize wordAtD X.b (xC X) (X.x.getD N.rs1 0) (kD N.op) = T at h
     unfold atF
     split
     . unfold atG lrX scX amoX unresX
       dsimp only
       split
       . rw [setXR_b]; exact h
       . split
         . rw [setXR_b]
           cases scB (X.withB T.2) T.1.1
           . exact (stN_length _ _ _ _).trans h
           . exact h
         . rw [setXR_b]; exact (stN_length _ _ _ _).trans h
     . exact h
   . rfl
 split
 . rfl
 split
 . rfl
 split
 . unfold ccrX
   dsimp only
   split
   . rw [wcs_keep, setXR_b]
   . rw [setXR_b]
 split
 . unfold prvX mrtX srtX unresX
   dsimp only
   split
   . rfl
   . split
     . rfl
     . split <;> rfl
 . rfl
theorem ins_len (X : XS) : (insX X).2.b.ram.length = X.b.ram.length := by
 unfold insX
 have h := fetch_len X.b (xC X) X.pc
 generalize fetchD X.b (xC X) X.pc = T at h
 split
 . split
   . unfold insR
     have := cro_len (X.withB T.2) (niOf (decodeD (T.1.w : Int)).1) T.1.w
     split
     . exact this.trans h
     . exact this.trans h
   . exact h
 . exact h
theorem step_len (X : XS) : (stepX X).2.b.ram.length = X.b.ram.length := by
 show (actX X).2.b.ram.length = _
 have ht : ∀ (Y : XS) (a b : Nat), (teX Y a b).b = Y.b := fun Y a b => by unfold teX tsX tmX; split <;> rfl
 have hi : ∀ (Y : XS) (a : Nat), (tiX Y a).b = Y.b := fun Y a => by unfold tiX tsX tmX; split <;> rfl
 have h := ins_len (wakX X)
 unfold actX
 split
 . rfl
 . split
   . unfold actE
     split
     . exact h
     . rw [ht]; exact h
   . rw [hi]; rfl
theorem run_len2 : ∀ (n r : Nat) (X : XS), (runG n r X).2.b.ram.length = X.b.ram.length
 | 0, _, _ => rfl
 | n + 1, r, X => (run_len2 n _ _).trans (step_len X)
theorem run_cnt : ∀ (n r : Nat) (X : XS), (runG n r X).1 <= r + n
 | 0, _, _ => Nat.le_refl _
 | n + 1, r, X => by
  have := run_cnt n (if (stepX X).1.1 = 0 then r + 1 else r) (stepX X).2
  refine Nat.le_trans (show (runG (n + 1) r X).1 <= _ from this) ?_
  split <;> omega
theorem step_in (X : XS) (h : XInv X) : 0 <= (stepX X).1.1 /\ (stepX X).1.1 <= 3 /\ -1 <= (stepX X).1.2 /\ (stepX X).1.2 < 16 := by
 have h1 := (act_inv h).2
 refine ⟨?_, ?_, h1.1, h1.2⟩
 all_goals
  show _
  unfold stepX actX
  dsimp only
  split
  . dsimp only; decide
  . split
    . unfold actE
      split
      . dsimp only; decide
      . dsimp only; decide
    . dsimp only; decide
theorem m_Step (mb rb z : Nat) (w : World) (hw : Mz w mb rb z) : Calls prog 24 #[.pointer (some ⟨mb, 0, none⟩)] w fun o w' => (∃ k c : Int, 0 <= k /\ k <= 3 /\ -1 <= c /\ c < 16 /\ o = .returned (.agg #[.int .i64 k, .int .i64 c])) /\ Mz w' mb rb z /\ Kept [mb, rb] w w' := by
 obtain ⟨X, h1, h2, h3⟩ := hw
 have hs := step_in X h2
 exact (x_Step mb rb X h2 w (hide1 h1)).mono (fun o w' ⟨a, b, c⟩ => ⟨⟨_, _, hs.1, hs.2.1, hs.2.2.1, hs.2.2.2, a⟩, ⟨_, b, step_inv h2, (step_len X).trans h3⟩, c⟩)
theorem m_Run (mb rb z : Nat) (n : Int) (w : World) (hw : Mz w mb rb z) : Calls prog 62 #[.pointer (some ⟨mb, 0, none⟩), .int .i64 n] w fun o w' => (∃ v er : Int, 0 <= v /\ v <= 4096 /\ o = .returned (.tuple #[.int .i64 v, .int .i64 er])) /\ Mz w' mb rb z /\ Kept [mb, rb] w w' := by
 obtain ⟨X, h1, h2, h3⟩ := hw
 have hc := run_cnt n.toNat 0 X
 refine (ux_Run mb rb X h2 n w h1).mono (fun o w' ⟨a, b, c⟩ => ⟨⟨_, _, ?_, ?_, a⟩, ⟨_, b, ?_, ?_⟩, c⟩)
 . unfold runU; split
   . dsimp only; omega
   . dsimp only; decide
 . unfold runU; split
   . dsimp only; omega
   . dsimp only; decide
 . unfold runU; split
   . exact run_inv _ _ X h2
   . exact h2
 . unfold runU; split
   . exact (run_len2 _ _ X).trans h3
   . exact h3
theorem k_regV (mb rb : Nat) (X : XS) (i : Int) (v : Int) (hv : (regU X.x i).1 = v) (w) (hw : Hid (XAt w mb rb X)) : CS 91 #[.pointer (some ⟨mb, 0, none⟩), .int .i64 i] (.int .i64 v) w := by
 have R := hide1 (ux_Reg mb rb X i w hw.out)
 rw [hv] at R
 go_enter func91, ntmps91
 go_wp2_with fail
 refine R.out.mono ?_
 exact zq339
theorem k_reg (mb rb : Nat) (i : Int) (w : World) (hw : Hid (Mx w mb rb)) : Calls prog 91 #[.pointer (some ⟨mb, 0, none⟩), .int .i64 i] w fun o w' => IntR o /\ w' = w := by
 obtain ⟨X, h1, h2⟩ := hw.out
 refine (k_regV mb rb X i _ rfl w (hide1 h1)).mono (fun o w' h => ⟨⟨_, ?_, ?_, h.1⟩, h.2⟩)
 all_goals
  have := h2.ok.xr i.toNat
  unfold regU
  split
  . dsimp only; omega
  . dsimp only; omega
theorem k_csrV (mb rb X) (hX : XOk X) (i : Int) (v : Nat) (hv : (xcsrE X i).1 = v) (w) (hw : Hid (XAt w mb rb X)) : CK 95 #[.pointer (some ⟨mb, 0, none⟩), .int .i64 i] (.int .i64 v) w := by
 have R := hide1 (x_Csr mb rb X hX i w hw)
 rw [hv] at R
 obtain ⟨e, he⟩ := zn1 ((xcsrE X i).2)
 rw [<- he] at R
 clear he hv hX
 go_enter func95, ntmps95
 go_wp2_with fail
 refine R.out.mono ?_
 rintro o w1 ⟨rfl, hk⟩
 have HK := hide1 hk
 clear hk
 go_wp2_with fail
 go_ret
 exact ⟨rfl, HK.out⟩
theorem k_csr (mb rb : Nat) (i : Int) (w : World) (hw : Hid (Mx w mb rb)) : Calls prog 95 #[.pointer (some ⟨mb, 0, none⟩), .int .i64 i] w fun o w' => IntR o /\ Kept [] w w' := by
 obtain ⟨X, h1, h2⟩ := hw.out
 refine (k_csrV mb rb X h2.ok i _ rfl w (hide1 h1)).mono (fun o w' h => ⟨⟨_, ?_, ?_, h.1⟩, h.2⟩)
 all_goals
  have := rcs_lt X h2.ok i
  unfold xcsrE
  split
  . dsimp only; omega
  . dsimp only; omega
theorem k_ramV (mb rb X) (hX : XOk X) (s : ByteArray) (hs : pkB X.b.ram 0 X.b.ram.length = s) (w) (hw : Hid (XAt w mb rb X)) : CS 64 #[.pointer (some ⟨mb, 0, none⟩)] (.string s) w := by
 have S := hide1 (x_Size mb rb X w hw)
 have P := hide1 (x_Peek mb rb X hX 0 X.b.ram.length (by omega) w hw)
 rw [hs] at P
 obtain ⟨z, hz⟩ := zn1 (X.b.ram.length)
 rw [<- hz] at S P
 clear hz hs hX hw
 go_enter func64, ntmps64
 go_wp2_with fail
 refine S.out.mono ?_
 rintro o w1 ⟨rfl, rfl⟩
 go_wp2_with fail
 refine P.out.mono ?_
 exact zq339
theorem k_ram (mb rb z : Nat) (w : World) (hw : Hid (Mz w mb rb z)) : Calls prog 64 #[.pointer (some ⟨mb, 0, none⟩)] w fun o w' => (∃ s : ByteArray, s.size = z /\ o = .returned (.string s)) /\ w' = w := by
 obtain ⟨X, h1, h2, h3⟩ := hw.out
 exact (k_ramV mb rb X h2.ok _ rfl w (hide1 h1)).mono (fun o w' h => ⟨⟨_, by rw [pkB_size _ _ _ (by omega)]; exact h3, h.1⟩, h.2⟩)
theorem k_minus (a : Int) (h0 : 0 <= a) (h1 : a < 4294967296) (w : World) : CS 98 #[.int .i64 a] (.int .i64 (sgn a)) w := by
 unfold sgn
 by_cases h : 2147483648 <= a
 . have q : decide (2147483648 <= a) = true := by simp [h]
   rw [if_pos h]
   have wr : IntKind.i64.wrap (a - 4294967296) = a - 4294967296 := zq115
   exact zq340
 . have q : decide (2147483648 <= a) = false := by simp; omega
   rw [if_neg h]
   exact zq340
theorem k_pickE (c : Int) (h0 : -9223372036854775808 <= c) (h1 : c <= 9223372036854775807) (n : Nat) (hn : 0 < n) (hn1 : n <= 9223372036854775807) : ∃ j : Nat, j < n /\ ∀ w : World,
 CS 28 #[.int .i64 c, .int .i64 n] (.int .i64 j) w := by
 have hz : ((n : Int) == 0) = false := by simp; omega
 by_cases hc : c < 0
 . have q : decide (c < 0) = true := by simp [hc]
   have w1 : IntKind.i64.wrap (c + 1) = c + 1 := zq115
   have w2 : IntKind.i64.wrap (-(c + 1)) = -(c + 1) := zq115
   have hm : (-(c + 1)).tmod (n : Int) = (-(c + 1)) % (n : Int) := Int.tmod_eq_emod_of_nonneg (by omega)
   have hlt := Int.emod_lt_of_pos (-(c + 1)) (show (0 : Int) < n by omega)
   have hge := Int.emod_nonneg (-(c + 1)) (show (n : Int) ≠ 0 by omega)
   have w3 : IntKind.i64.wrap ((-(c + 1)).tmod (n : Int)) = (-(c + 1)).tmod (n : Int) := wrap_in _ (by rw [hm]; omega)
   obtain ⟨j, hj⟩ : ∃ j : Nat, (j : Int) = (-(c + 1)).tmod (n : Int) := ⟨((-(c + 1)).tmod (n : Int)).toNat, by rw [hm]; omega⟩
   exact zq341
 . have q : decide (c < 0) = false := by simp; omega
   have hm : c.tmod (n : Int) = c % (n : Int) := Int.tmod_eq_emod_of_nonneg (by omega)
   have hlt := Int.emod_lt_of_pos c (show (0 : Int) < n by omega)
   have hge := Int.emod_nonneg c (show (n : Int) ≠ 0 by omega)
   have w3 : IntKind.i64.wrap (c.tmod (n : Int)) = c.tmod (n : Int) := wrap_in _ (by rw [hm]; omega)
   obtain ⟨j, hj⟩ : ∃ j : Nat, (j : Int) = c.tmod (n : Int) := ⟨(c.tmod (n : Int)).toNat, by rw [hm]; omega⟩
   exact zq341
theorem k_pick (c : Int) (h0 : -9223372036854775808 <= c) (h1 : c <= 9223372036854775807) (n : Nat) (hn : 0 < n) (hn1 : n <= 9223372036854775807) (w : World) :
 Calls prog 28 #[.int .i64 c, .int .i64 n] w fun e w' => (∃ j : Nat, j < n /\ e = .returned (.int .i64 j)) /\ w' = w := by
 obtain ⟨j, hj, h⟩ := k_pickE c h0 h1 n hn hn1
 exact (h w).mono (fun e w' h => ⟨⟨j, hj, h.1⟩, h.2⟩)
end
section
open Go.Shelf
def Tryz.laysM171_ren : Go.Shelf.Ren := ⟨fun | 171 => 213 | 243 => 302 | 246 => 354 | 283 => 382 | 284 => 383 | 285 => 384 | 286 => 385 | 129 => 406 | 317 => 405 | 318 => 407 | 319 => 408 | 320 => 409 | 337 => 440 | 338 => 441 | n => n, fun | 3 => 3 | 9 => 9 | 2 => 2 | 4 => 4 | 171 => 273 | 0 => 0 | 53 => 274 | 37 => 64 | 5 => 5 | 173 => 277 | 212 => 283 | 51 => 284 | 20 => 20 | 213 => 285 | 46 => 107 | 232 => 296 | 233 => 297 | n => n, fun | 17 => 0 | 18 => 1 | 19 => 2 | n => n⟩
theorem Tryz.laysM171 : Go.Proofs.LaysM.n171 prog Tryz.laysM171_ren := {
 mixed := by kernel_rfl
 f129 := func406.trans (congrArg some (by kernel_rfl))
 f171 := func213.trans (congrArg some (by kernel_rfl))
 f243 := func302.trans (congrArg some (by kernel_rfl))
 f246 := func354.trans (congrArg some (by kernel_rfl))
 f283 := func382.trans (congrArg some (by kernel_rfl))
 f284 := func383.trans (congrArg some (by kernel_rfl))
 f285 := func384.trans (congrArg some (by kernel_rfl))
 f286 := func385.trans (congrArg some (by kernel_rfl))
 f317 := func405.trans (congrArg some (by kernel_rfl))
 f318 := func407.trans (congrArg some (by kernel_rfl))
 f319 := func408.trans (congrArg some (by kernel_rfl))
 f320 := func409.trans (congrArg some (by kernel_rfl))
 f337 := func440.trans (congrArg some (by kernel_rfl))
 f338 := func441.trans (congrArg some (by kernel_rfl))
 t0 := Tryz.underlying0
 a0 := Tryz.isAgg0
 z0 := Tryz.sizeOf0
 v0 := Tryz.zeroValue0
 t2 := Tryz.underlying2
 a2 := Tryz.isAgg2
 z2 := Tryz.sizeOf2
 v2 := Tryz.zeroValue2
 t3 := Tryz.underlying3
 a3 := Tryz.isAgg3
 z3 := Tryz.sizeOf3
 v3 := Tryz.zeroValue3
 t4 := Tryz.underlying4
 a4 := Tryz.isAgg4
 z4 := Tryz.sizeOf4
 v4 := Tryz.zeroValue4
 t5 := Tryz.underlying5
 a5 := Tryz.isAgg5
 z5 := Tryz.sizeOf5
 v5 := Tryz.zeroValue5
 t9 := Tryz.underlying9
 a9 := Tryz.isAgg9
 z9 := Tryz.sizeOf9
 v9 := Tryz.zeroValue9
 t20 := Tryz.underlying20
 a20 := Tryz.isAgg20
 z20 := Tryz.sizeOf20
 v20 := Tryz.zeroValue20
 t37 := Tryz.underlying64
 a37 := Tryz.isAgg64
 z37 := Tryz.sizeOf64
 v37 := Tryz.zeroValue64
 t46 := Tryz.underlying107
 a46 := Tryz.isAgg107
 z46 := Tryz.sizeOf107
 v46 := Tryz.zeroValue107
 t51 := Tryz.underlying284
 a51 := Tryz.isAgg284
 z51 := Tryz.sizeOf284
 v51 := Tryz.zeroValue284
 t53 := Tryz.underlying274
 a53 := Tryz.isAgg274
 z53 := Tryz.sizeOf274
 v53 := Tryz.zeroValue274
 t171 := Tryz.underlying273
 a171 := Tryz.isAgg273
 z171 := Tryz.sizeOf273
 v171 := Tryz.zeroValue273
 t173 := Tryz.underlying277
 a173 := Tryz.isAgg277
 z173 := Tryz.sizeOf277
 v173 := Tryz.zeroValue277
 t212 := Tryz.underlying283
 a212 := Tryz.isAgg283
 z212 := Tryz.sizeOf283
 v212 := Tryz.zeroValue283
 t213 := Tryz.underlying285
 a213 := Tryz.isAgg285
 z213 := Tryz.sizeOf285
 t232 := Tryz.underlying296
 a232 := Tryz.isAgg296
 z232 := Tryz.sizeOf296
 v232 := Tryz.zeroValue296
 t233 := Tryz.underlying297
 a233 := Tryz.isAgg297
 z233 := Tryz.sizeOf297
 v233 := Tryz.zeroValue297
 g17 := by kernel_rfl
 g18 := by kernel_rfl
 g19 := by kernel_rfl
 i0 := by kernel_rfl
 i2 := by kernel_rfl
 i3 := by kernel_rfl
 i4 := by kernel_rfl
 i5 := by kernel_rfl
 i9 := by kernel_rfl
 i20 := by kernel_rfl
 i37 := by kernel_rfl
 i46 := by kernel_rfl
 i51 := by kernel_rfl
 i53 := by kernel_rfl
 i171 := by kernel_rfl
 i173 := by kernel_rfl
 i212 := by kernel_rfl
 i232 := by kernel_rfl
 i233 := by kernel_rfl
 m17 := by kernel_rfl
 m18 := by kernel_rfl
 m19 := by kernel_rfl }
open Go.RowKit Go.Sort Go.Lib in
theorem Tryz.strconv_Itoa (n : Int) (h0 : -9223372036854775808 <= n) (h1 : n <= 9223372036854775807) (w : World) (htab : Lib.TabIs prog w "internal/strconv.uint64pow10" .u64 Lib.pow10Tab) :
 Calls prog 213 #[.int .i64 n] w fun e w' => e = .returned (.string ⟨(Lib.itoa n).toArray⟩) /\ ∃ k os, w' = grow (w.drewN k) os := Any.strconv_Itoa Tryz.laysM171 n h0 h1 w htab
def Tryz.lays171_ren : Go.Shelf.Ren := ⟨fun | 171 => 213 | 243 => 302 | 246 => 354 | 283 => 382 | 284 => 383 | 285 => 384 | 286 => 385 | 129 => 406 | 317 => 405 | 318 => 407 | 319 => 408 | 320 => 409 | 337 => 440 | 338 => 441 | n => n, fun | 3 => 3 | 9 => 9 | 2 => 2 | 4 => 4 | 171 => 273 | 0 => 0 | 53 => 274 | 37 => 64 | 5 => 5 | 173 => 277 | 212 => 283 | 51 => 284 | 20 => 20 | 213 => 285 | 46 => 107 | 232 => 296 | 233 => 297 | n => n, fun | 17 => 0 | 18 => 1 | 19 => 2 | n => n⟩
theorem Tryz.lays171 : Go.Proofs.Lays.n171 prog Tryz.lays171_ren := {
 mixed := by kernel_rfl
 f129 := func406.trans (congrArg some (by kernel_rfl))
 f171 := func213.trans (congrArg some (by kernel_rfl))
 f243 := func302.trans (congrArg some (by kernel_rfl))
 f246 := func354.trans (congrArg some (by kernel_rfl))
 f283 := func382.trans (congrArg some (by kernel_rfl))
 f284 := func383.trans (congrArg some (by kernel_rfl))
 f285 := func384.trans (congrArg some (by kernel_rfl))
 f286 := func385.trans (congrArg some (by kernel_rfl))
 f317 := func405.trans (congrArg some (by kernel_rfl))
 f318 := func407.trans (congrArg some (by kernel_rfl))
 f319 := func408.trans (congrArg some (by kernel_rfl))
 f320 := func409.trans (congrArg some (by kernel_rfl))
 f337 := func440.trans (congrArg some (by kernel_rfl))
 f338 := func441.trans (congrArg some (by kernel_rfl))
 t0 := Tryz.underlying0
 a0 := Tryz.isAgg0
 z0 := Tryz.sizeOf0
 v0 := Tryz.zeroValue0
 t2 := Tryz.underlying2
 a2 := Tryz.isAgg2
 z2 := Tryz.sizeOf2
 v2 := Tryz.zeroValue2
 t3 := Tryz.underlying3
 a3 := Tryz.isAgg3
 z3 := Tryz.sizeOf3
 v3 := Tryz.zeroValue3
 t4 := Tryz.underlying4
 a4 := Tryz.isAgg4
 z4 := Tryz.sizeOf4
 v4 := Tryz.zeroValue4
 t5 := Tryz.underlying5
 a5 := Tryz.isAgg5
 z5 := Tryz.sizeOf5
 v5 := Tryz.zeroValue5
 t9 := Tryz.underlying9
 a9 := Tryz.isAgg9
 z9 := Tryz.sizeOf9
 v9 := Tryz.zeroValue9
 t20 := Tryz.underlying20
 a20 := Tryz.isAgg20
 z20 := Tryz.sizeOf20
 v20 := Tryz.zeroValue20
 t37 := Tryz.underlying64
 a37 := Tryz.isAgg64
 z37 := Tryz.sizeOf64
 v37 := Tryz.zeroValue64
 t46 := Tryz.underlying107
 a46 := Tryz.isAgg107
 z46 := Tryz.sizeOf107
 v46 := Tryz.zeroValue107
 t51 := Tryz.underlying284
 a51 := Tryz.isAgg284
 z51 := Tryz.sizeOf284
 v51 := Tryz.zeroValue284
 t53 := Tryz.underlying274
 a53 := Tryz.isAgg274
 z53 := Tryz.sizeOf274
 v53 := Tryz.zeroValue274
 t171 := Tryz.underlying273
 a171 := Tryz.isAgg273
 z171 := Tryz.sizeOf273
 v171 := Tryz.zeroValue273
 t173 := Tryz.underlying277
 a173 := Tryz.isAgg277
 z173 := Tryz.sizeOf277
 v173 := Tryz.zeroValue277
 t212 := Tryz.underlying283
 a212 := Tryz.isAgg283
 z212 := Tryz.sizeOf283
 v212 := Tryz.zeroValue283
 t213 := Tryz.underlying285
 a213 := Tryz.isAgg285
 z213 := Tryz.sizeOf285
 t232 := Tryz.underlying296
 a232 := Tryz.isAgg296
 z232 := Tryz.sizeOf296
 v232 := Tryz.zeroValue296
 t233 := Tryz.underlying297
 a233 := Tryz.isAgg297
 z233 := Tryz.sizeOf297
 v233 := Tryz.zeroValue297
 g17 := by kernel_rfl
 g18 := by kernel_rfl
 g19 := by kernel_rfl }
open Go.RowKit Go.Sort Go.Lib in
theorem Tryz.strconv_Itoa_small (i : Nat) (hi : i < 100) (w : World) :
 CS 213 #[.int .i64 i] (.string ⟨(Lib.decDigits i).toArray⟩) w := Any.strconv_Itoa_small Tryz.lays171 i hi w
end
namespace Byt
def regName (n : Nat) : List UInt8 := 120 :: Lib.decDigits n
end Byt
theorem add_str {a b c : ByteArray} (h : a ++ b = c) (hl : a.size + b.size <= 100000) (w : World) : (Op.stringOp .add a b).run prog w = .ok (.string c) w := by
 rw [<- h]; exact run_string_add_sum w a b (by omega)
theorem mk_app (x y : List UInt8) : (⟨x.toArray⟩ : ByteArray) ++ ⟨y.toArray⟩ = ⟨(x ++ y).toArray⟩ := ByteArray.mk_append_mk x y
theorem names_short : ((List.range 100).all fun n => decide ((Lib.decDigits n).length <= 10)) = true := by decide +kernel
theorem a_registerName (n : Nat) (hn : n < 100) (w : World) :
 CS 303 #[.int .i64 n] (Byt.strV (Byt.regName n)) w := by
 have hlen := List.all_eq_true.1 names_short n (by simpa using hn)
 rw [decide_eq_true_eq] at hlen
 obtain ⟨D, hD⟩ := zn1 (⟨(Lib.decDigits n).toArray⟩ : ByteArray)
 obtain ⟨X, hX⟩ := zn1 (⟨(Byt.regName n).toArray⟩ : ByteArray)
 have hadd : ∀ w, (Op.stringOp .add ⟨#[120]⟩ D).run prog w = .ok (.string X) w := fun w => add_str (a := ⟨#[120]⟩) (b := D) (c := X) (by rw [hD, hX]; exact mk_app [120] _) (by rw [hD]; simp [ByteArray.size]; omega) w
 have HX := hide1 hX
 have HD := hide1 hD
 clear hX hD hlen
 go_enter func303, ntmps303
 go_wp2_with fail
 refine (Tryz.strconv_Itoa_small n hn _).mono ?_
 rintro e w' ⟨rfl, rfl⟩
 rw [<- HD.out]
 go_wp2
 go_ret
 exact ⟨by unfold Byt.strV; rw [<- HX.out]; rfl, rfl⟩
def StrsAt (w : World) (b o : Nat) (L : List (List UInt8)) : Prop := ∀ j (h : j < L.length), w.cell? ⟨b, o + j, none⟩ = some (Byt.strV L[j])
theorem StrsAt.below {w w' : World} {b o : Nat} {L : List (List UInt8)} (h : StrsAt w b o L) {n : Nat} (hb : Below n w w') (hn : b < n) : StrsAt w' b o L := fun j hj => by
 rw [hb.cell (p := ⟨b, o + j, none⟩) hn]; exact h j hj
theorem StrsAt.drop {w : World} {b o : Nat} {L : List (List UInt8)} (h : StrsAt w b o L) (k : Nat) : StrsAt w b (o + k) (L.drop k) := fun j hj => by
 have hj' : k + j < L.length := by simp at hj; omega
 have := h (k + j) hj'
 rw [List.getElem_drop, show o + k + j = o + (k + j) by omega]; exact this
theorem StrsAt.of_row {w : World} {base : Nat} {v : Value} {L : List (List UInt8)} (h : w.ownsRow base 9 1 v L.length (L.map Byt.strV)) (hn : v ≠ .slice none 0 0) :
 ∃ b cap, v = .slice (some ⟨b, 0, none⟩) L.length cap /\ base <= b /\ b < w.heap.size /\ StrsAt w b 0 L := by
 rcases h.2 with ⟨hv, _⟩ | ⟨g, cap, cur, rfl, hb, hg, hrest⟩
 . exact absurd hv hn
 . refine ⟨g, cap, rfl, hb, (Array.getElem?_eq_some_iff.1 hg).1, fun j hj => ?_⟩
   rw [Nat.zero_add, h.cellAt j (by omega)]
   rw [List.getElem?_map, List.getElem?_eq_getElem hj]; rfl
theorem a_tokenAt (b o cap : Nat) (L : List (List UInt8)) (_hL : L.length <= 5000) (a : Nat) (ha : a <= 10000) (w : World) (hw : Hid (StrsAt w b o L)) :
 CS 309 #[.slice (some ⟨b, o, none⟩) L.length cap, .int .i64 a] (Byt.strV (L[a]?.getD [])) w := by
 by_cases h : a < L.length
 . have hc := hw.out a h
   rw [List.getElem?_eq_getElem h, Option.getD_some]
   obtain ⟨X, hX⟩ := zn1 (Byt.strV L[a])
   rw [<- hX] at hc |-
   clear hX
   exact zq342
 . rw [List.getElem?_eq_none (by omega)]
   exact zq342
namespace Byt
def regFrom (t : List UInt8) : Nat -> Nat -> Option Nat
 | 0, _ => none
 | f + 1, n => if t = regName n then some n else regFrom t f (n + 1)
def reg (t : List UInt8) : Option Nat := regFrom t 32 0
end Byt
theorem eq_str (s X : ByteArray) (l : List UInt8) (h : X = ⟨l.toArray⟩) : (s.toList == X.toList) = decide (s.data.toList = l) := by
 rw [Lib.toList_data, Lib.toList_data, h, Bool.eq_iff_iff]; simp
theorem a_readRegister (s : ByteArray) (w : World) :
 CS 386 #[.string s] (.tuple #[.int .i64 ((Byt.reg s.data.toList).getD 0 : Nat), .bool (Byt.reg s.data.toList).isSome]) w := by
 obtain ⟨T, hT⟩ := zn1 (Byt.reg s.data.toList)
 rw [<- hT]
 have HT := hide1 hT
 clear hT
 go_enter func386, ntmps386
 go_wp2
 go_loop [4] (fun d => ∃ i : Nat, i <= 32 /\ d = .int .i64 i /\ Hid (T = Byt.regFrom s.data.toList (32 - i) i)) (fun d => 32 - (intOf d).toNat)
 case atStart => exact ⟨0, by omega, rfl, HT⟩
 case round =>
  obtain ⟨i, hi0, rfl, hh⟩ := hrel
  by_cases hi : i < 32
  . obtain ⟨X, hX⟩ := zn1 (⟨(Byt.regName i).toArray⟩ : ByteArray)
    have hX' : Byt.strV (Byt.regName i) = .string X := by rw [hX]; rfl
    have he := eq_str s X _ hX
    have hv : T = if s.data.toList = Byt.regName i then some i else Byt.regFrom s.data.toList (32 - (i + 1)) (i + 1) := by
     rw [hh.out, show 32 - i = (32 - (i + 1)) + 1 by omega]; rfl
    by_cases hc : s.data.toList = Byt.regName i
    . rw [if_pos hc] at hv
      rw [decide_eq_true hc] at he
      have HV := hide1 hv
      have HX := hide1 hX'
      clear hX hX' hv hc hh HT
      go_wp2_with (go_at_call 303; refine (a_registerName i (by omega) _).mono ?_; rintro e w' ⟨rfl, rfl⟩; rw [HX.out])
      exact zq343
    . rw [if_neg hc] at hv
      rw [decide_eq_false hc] at he
      have HV := hide1 hv
      have HX := hide1 hX'
      clear hX hX' hv hc hh HT
      go_wp2_with (go_at_call 303; refine (a_registerName i (by omega) _).mono ?_; rintro e w' ⟨rfl, rfl⟩; rw [HX.out])
      go_round
      case rel => exact ⟨i + 1, by omega, by go_num, HV⟩
      case measure => exact zq186
  . obtain rfl : i = 32 := by omega
    have hT : Hid (T = none) := hh
    clear hh HT
    go_wp2
    go_ret2
    exact zq344
namespace Byt
def nmL (op : Nat) : List UInt8 := (Nm.name op).data.toList
def wrdFrom (t : List UInt8) : Nat -> Nat -> Nat × Nat
 | 0, _ => (0, 0)
 | f + 1, op => if t = nmL op then (op, 4) else if t = 99 :: 46 :: nmL op then (op, 2) else wrdFrom t f (op + 1)
def wrd (t : List UInt8) : Nat × Nat := if t = nmL 71 then (71, 4) else if t = nmL 72 then (72, 2) else wrdFrom t 70 1
end Byt
theorem nm_size : ((List.range 73).all fun n => decide ((Nm.name n).size <= 20)) = true := by decide +kernel
theorem nm_sz (n : Nat) (h : n <= 72) : (Nm.name n).size <= 20 := by
 have := List.all_eq_true.1 nm_size n (by simp; omega)
 rwa [decide_eq_true_eq] at this
theorem mk_list (s : ByteArray) : (⟨s.data.toList.toArray⟩ : ByteArray) = s := by cases s; simp
theorem short_add (n : Nat) (h : n <= 72) (w : World) : (Op.stringOp .add ⟨#[99, 46]⟩ (Nm.name n)).run prog w = .ok (Byt.strV (99 :: 46 :: Byt.nmL n)) w := by
 refine add_str (a := ⟨#[99, 46]⟩) (b := Nm.name n) (c := ⟨(99 :: 46 :: Byt.nmL n).toArray⟩) ?_ (by have := nm_sz n h; have h2 : (⟨#[99, 46]⟩ : ByteArray).size = 2 := rfl; rw [h2]; omega) w
 have h := mk_app [99, 46] (Nm.name n).data.toList
 rw [mk_list] at h
 exact h
theorem a_shortName (n : Nat) (hn : n <= 72) (w : World) :
 CS 214 #[.int .i64 n] (Byt.strV (99 :: 46 :: Byt.nmL n)) w := by
 obtain ⟨D, hD⟩ := zn1 (Nm.name n)
 have hadd := short_add n hn
 rw [<- hD] at hadd
 have HD := hide1 hD
 clear hD
 go_enter func214, ntmps214
 go_wp2_with (go_at_call 212; refine (a_Name n _).mono ?_; rintro e w' ⟨rfl, rfl⟩; rw [<- HD.out])
 exact zq191
theorem eq_nm (s X : ByteArray) : (s.toList == X.toList) = decide (s.data.toList = X.data.toList) := by
 rw [Lib.toList_data, Lib.toList_data, Bool.eq_iff_iff]; simp
theorem a_readWord (s : ByteArray) (w : World) :
 CS 221 #[.string s] (.tuple #[.int .i64 (Byt.wrd s.data.toList).1, .int .i64 (Byt.wrd s.data.toList).2]) w := by
 obtain ⟨T, hT⟩ := zn1 (Byt.wrd s.data.toList)
 rw [<- hT]
 unfold Byt.wrd at hT
 obtain ⟨W1, hW1⟩ := zn1 (Nm.name 71)
 obtain ⟨W2, hW2⟩ := zn1 (Nm.name 72)
 have he1 := eq_nm s W1
 have he2 := eq_nm s W2
 rw [hW1] at he1
 rw [hW2] at he2
 change _ = decide (s.data.toList = Byt.nmL 71) at he1
 change _ = decide (s.data.toList = Byt.nmL 72) at he2
 rw [<- hW1] at he1
 rw [<- hW2] at he2
 have H1 := hide1 hW1
 have H2 := hide1 hW2
 clear hW1 hW2
 by_cases c1 : s.data.toList = Byt.nmL 71
 . rw [if_pos c1] at hT
   rw [decide_eq_true c1] at he1
   subst hT
   clear c1 he2
   go_enter func221, ntmps221
   go_wp2_with (go_at_call 212; refine (a_Name 71 _).mono ?_; rintro e w' ⟨rfl, rfl⟩; rw [<- H1.out])
   exact zq319
 . rw [if_neg c1] at hT
   rw [decide_eq_false c1] at he1
   by_cases c2 : s.data.toList = Byt.nmL 72
   . rw [if_pos c2] at hT
     rw [decide_eq_true c2] at he2
     subst hT
     clear c1 c2
     go_enter func221, ntmps221
     go_wp2_with (go_at_call 212; refine (a_Name _ _).mono ?_; rintro e w' ⟨rfl, rfl⟩; first | rw [<- H1.out] | rw [<- H2.out])
     exact zq319
   . rw [if_neg c2] at hT
     rw [decide_eq_false c2] at he2
     have HT := hide1 hT
     clear c1 c2 hT
     go_enter func221, ntmps221
     go_wp2_with (go_at_call 212; refine (a_Name _ _).mono ?_; rintro e w' ⟨rfl, rfl⟩; first | rw [<- H1.out] | rw [<- H2.out])
     clear he1 he2 H1 H2
     go_loop [4] (fun d => ∃ i : Nat, 1 <= i /\ i <= 71 /\ d = .int .i64 i /\ Hid (T = Byt.wrdFrom s.data.toList (71 - i) i)) (fun d => 71 - (intOf d).toNat)
     case atStart => exact ⟨1, by omega, by omega, rfl, HT⟩
     case round =>
      obtain ⟨i, hi1, hi0, rfl, hh⟩ := hrel
      by_cases hi : i < 71
      . obtain ⟨X, hX⟩ := zn1 (Nm.name i : ByteArray)
        obtain ⟨Y, hY⟩ := zn1 (⟨(99 :: 46 :: Byt.nmL i).toArray⟩ : ByteArray)
        have hY' : Byt.strV (99 :: 46 :: Byt.nmL i) = .string Y := by rw [hY]; rfl
        have he1 : (s.toList == X.toList) = decide (s.data.toList = Byt.nmL i) := by rw [hX]; exact eq_nm s _
        have he2 := eq_str s Y _ hY
        have hv : T = if s.data.toList = Byt.nmL i then (i, 4) else if s.data.toList = 99 :: 46 :: Byt.nmL i then (i, 2) else Byt.wrdFrom s.data.toList (71 - (i + 1)) (i + 1) := by
         rw [hh.out, show 71 - i = (71 - (i + 1)) + 1 by omega]; rfl
        have HX := hide1 hX
        have HY := hide1 hY'
        clear hX hY hY'
        by_cases c1 : s.data.toList = Byt.nmL i
        . rw [if_pos c1] at hv
          rw [decide_eq_true c1] at he1
          have HV := hide1 hv
          clear hv hh HT he2 c1
          go_wp2_with (go_at_call 212; refine (a_Name i _).mono ?_; rintro e w' ⟨rfl, rfl⟩; rw [<- HX.out])
          exact zq343
        . rw [if_neg c1] at hv
          rw [decide_eq_false c1] at he1
          by_cases c2 : s.data.toList = 99 :: 46 :: Byt.nmL i
          . rw [if_pos c2] at hv
            rw [decide_eq_true c2] at he2
            have HV := hide1 hv
            clear hv hh HT c1 c2
            go_wp2_with (first | (go_at_call 212; refine (a_Name i _).mono ?_; rintro e w' ⟨rfl, rfl⟩; rw [<- HX.out]) | (go_at_call 214; refine (a_shortName i (by omega) _).mono ?_; rintro e w' ⟨rfl, rfl⟩; rw [HY.out]))
            exact zq343
          . rw [if_neg c2] at hv
            rw [decide_eq_false c2] at he2
            have HV := hide1 hv
            clear hv hh HT c1 c2
            go_wp2_with (first | (go_at_call 212; refine (a_Name i _).mono ?_; rintro e w' ⟨rfl, rfl⟩; rw [<- HX.out]) | (go_at_call 214; refine (a_shortName i (by omega) _).mono ?_; rintro e w' ⟨rfl, rfl⟩; rw [HY.out]))
            go_round
            case rel => exact ⟨i + 1, by omega, by omega, by go_num, HV⟩
            case measure => exact zq186
      . obtain rfl : i = 71 := by omega
        have hT : Hid (T = (0, 0)) := hh
        clear hh HT
        go_wp2
        go_ret2
        exact zq344
theorem fields_ins : (prog.fieldsOf 60).toList.map (fun f => (f.name, f.type, f.offset)) = [("Op", 3, 0), ("Rd", 3, 1), ("Rs1", 3, 2), ("Rs2", 3, 3), ("Imm", 3, 4), ("Len", 3, 5)] := by kernel_rfl
theorem und_ins : prog.underlying 60 = some (.struct (prog.fieldsOf 60)) := by kernel_rfl
theorem stood_ins : prog.stoodInHeld 60 = false := by kernel_rfl
theorem eqFields_ins (d : Nat) (a0 a1 a2 a3 a4 a5 b0 b1 b2 b3 b4 b5 : Int) (fs : List Field) (h : fs.map (fun f => (f.name, f.type, f.offset)) = [("Op", 3, 0), ("Rd", 3, 1), ("Rs1", 3, 2), ("Rs2", 3, 3), ("Imm", 3, 4), ("Len", 3, 5)]) (w : World) :
 (Op.eqFields (d + 1) #[.int .i64 a0, .int .i64 a1, .int .i64 a2, .int .i64 a3, .int .i64 a4, .int .i64 a5] #[.int .i64 b0, .int .i64 b1, .int .i64 b2, .int .i64 b3, .int .i64 b4, .int .i64 b5] fs).run prog w =
   .ok (a0 == b0 && a1 == b1 && a2 == b2 && a3 == b3 && a4 == b4 && a5 == b5) w := by
 rcases fs with _ | ⟨f0, fs⟩
 . simp at h
 rcases fs with _ | ⟨f1, fs⟩
 . simp at h
 rcases fs with _ | ⟨f2, fs⟩
 . simp at h
 rcases fs with _ | ⟨f3, fs⟩
 . simp at h
 rcases fs with _ | ⟨f4, fs⟩
 . simp at h
 rcases fs with _ | ⟨f5, fs⟩
 . simp at h
 rcases fs with _ | ⟨f6, fs⟩
 . simp only [List.map_cons, List.map_nil, List.cons.injEq, Prod.mk.injEq, and_true] at h
   obtain ⟨⟨n0, t0, o0⟩, ⟨n1, t1, o1⟩, ⟨n2, t2, o2⟩, ⟨n3, t3, o3⟩, ⟨n4, t4, o4⟩, n5, t5, o5⟩ := h
   simp [Op.eqFields, n0, n1, n2, n3, n4, n5, t0, t1, t2, t3, t4, t5, o0, o1, o2, o3, o4, o5, go_sem, part]
   by_cases h0 : a0 = b0 <;> by_cases h1 : a1 = b1 <;> by_cases h2 : a2 = b2 <;> by_cases h3 : a3 = b3 <;> by_cases h4 : a4 = b4 <;> by_cases h5 : a5 = b5 <;> simp [h0, h1, h2, h3, h4, h5]
 . simp at h
theorem eql_ins (a0 a1 a2 a3 a4 a5 b0 b1 b2 b3 b4 b5 : Int) (w : World) :
 (binOp .eql 60 (.agg #[.int .i64 a0, .int .i64 a1, .int .i64 a2, .int .i64 a3, .int .i64 a4, .int .i64 a5]) (.agg #[.int .i64 b0, .int .i64 b1, .int .i64 b2, .int .i64 b3, .int .i64 b4, .int .i64 b5])).run prog w =
   .ok (.bool (a0 == b0 && a1 == b1 && a2 == b2 && a3 == b3 && a4 == b4 && a5 == b5)) w := by
 rw [run_eql_struct, show (10000 : Nat) = 9998 + 1 + 1 from rfl, run_equalIn_agg w (9998 + 1) 60 _ _ und_ins stood_ins, eqFields_ins 9998 _ _ _ _ _ _ _ _ _ _ _ _ _ fields_ins]
 rfl
theorem scan_someE {f : Nat -> Option Ins} {j : Ins} : ∀ (m n : Nat), scan f n m = some j -> ∃ k, n <= k /\ k < n + m /\ f k = some j
 | 0, _, h => by cases h
 | m + 1, n, h => by
  rw [scan_step] at h
  cases hf : f n with
  | some i => rw [hf] at h; simp at h; exact ⟨n, by omega, by omega, by rw [hf, h]⟩
  | none =>
   rw [hf] at h
   obtain ⟨k, h1, h2, h3⟩ := scan_someE m (n + 1) h
   exact ⟨k, by omega, by omega, h3⟩
structure Ln where
 nm : List UInt8
 i : Ins
 tg : List UInt8
def lnA (N : ByteArray) (i : Ins) (G : ByteArray) : Value := .agg #[.string N, .int .i64 i.op, .int .i64 i.rd, .int .i64 i.rs1, .int .i64 i.rs2, .int .i64 i.im, .int .i64 i.ln, .string G]
def lnV (l : Ln) : Value := lnA ⟨l.nm.toArray⟩ l.i ⟨l.tg.toArray⟩
def ln0 : Ln := ⟨[], ins0, []⟩
def insO (N G : ByteArray) : Option Ins -> Value
 | some i => .tuple #[lnA N i G, .bool true]
 | none => .tuple #[lnA ⟨#[]⟩ ins0 ⟨#[]⟩, .bool false]
namespace Byt
def opdR (i : Ins) (c : Nat) (t : List UInt8) : Option Ins :=
 match reg t with
 | none => none
 | some r => some (if c = 100 then { i with rd := r } else if c = 115 then { i with rs1 := r } else { i with rs2 := r })
def opdN (i : Ins) (c : Nat) (t : List UInt8) : Option Ins :=
 if (number t).2 = true then some (if c = 117 then { i with rs1 := (number t).1 } else { i with im := (number t).1 }) else none
def opdM (i : Ins) (t0 t1 t2 t3 : List UInt8) : Option Ins :=
 if t1 = [40] /\ t3 = [41] /\ (number t0).2 = true then
  match reg t2 with
  | none => none
  | some r => some { i with im := (number t0).1, rs1 := r }
 else none
end Byt
theorem a_readRegisterOperand (N G : ByteArray) (i : Ins) (c : Nat) (hc : c = 100 \/ c = 115 \/ c = 116) (s : ByteArray) (w : World) :
 CB 355 #[lnA N i G, .int .u8 c, .string s] (insO N G (Byt.opdR i c s.data.toList)) w := by
 unfold Byt.opdR
 obtain ⟨T, hT⟩ := zn1 (Byt.reg s.data.toList)
 rw [<- hT]
 have HT := hide1 hT
 clear hT
 unfold lnA
 cases T with
 | none =>
  go_enter func355, ntmps355
  go_wp2_with fail
  refine (a_readRegister s _).mono ?_
  rintro e w' ⟨rfl, rfl⟩
  rw [<- HT.out]
  go_wp2
  refine bodyPost_ret (v := insO N G none) zq510 rfl ⟨rfl, ?_⟩
  repeat (first | exact Below.refl _ _ | (with_reducible refine Below.setCell ?_ (by simp) _) | (with_reducible refine Below.alloc ?_ (by simp) _))
 | some r =>
  rcases hc with rfl | rfl | rfl
  . go_enter func355, ntmps355
    go_wp2_with fail
    refine (a_readRegister s _).mono ?_
    rintro e w' ⟨rfl, rfl⟩
    rw [<- HT.out]
    go_wp2
    refine bodyPost_ret (v := insO N G (some { i with rd := r })) zq510 rfl ⟨rfl, ?_⟩
    exact zq345
  . go_enter func355, ntmps355
    go_wp2_with fail
    refine (a_readRegister s _).mono ?_
    rintro e w' ⟨rfl, rfl⟩
    rw [<- HT.out]
    go_wp2
    refine bodyPost_ret (v := insO N G (some { i with rs1 := r })) zq510 rfl ⟨rfl, ?_⟩
    exact zq345
  . go_enter func355, ntmps355
    go_wp2_with fail
    refine (a_readRegister s _).mono ?_
    rintro e w' ⟨rfl, rfl⟩
    rw [<- HT.out]
    go_wp2
    refine bodyPost_ret (v := insO N G (some { i with rs2 := r })) zq510 rfl ⟨rfl, ?_⟩
    exact zq345
theorem eq_lit (s : ByteArray) (l : List UInt8) : (s.toList == l) = decide (s.data.toList = l) := by
 rw [Lib.toList_data, Bool.eq_iff_iff]; simp
theorem StrsAt.more {w w' : World} {b o : Nat} {L : List (List UInt8)} (h : Hid (StrsAt w b o L)) (hn : b < w.heap.size) (hb : Below w.heap.size w w') : Hid (StrsAt w' b o L) := h.out.below hb hn
def Short (L : List (List UInt8)) : Prop := ∀ t ∈ L, t.length <= 5000
theorem Short.get {L : List (List UInt8)} (h : Hid (Short L)) (a : Nat) : (L[a]?.getD []).length <= 5000 := by
 cases e : L[a]? with
 | none => simp
 | some t => exact h.out t (List.mem_of_getElem? e)
theorem a_readPlaceOperand (N G : ByteArray) (i : Ins) (b o cap : Nat) (L : List (List UInt8)) (hL : L.length <= 5000) (a : Nat) (ha : a <= 9000) (w : World) (hw : Hid (StrsAt w b o L)) (hb : b < w.heap.size) (hs : Hid (Short L)) :
 CB 356 #[lnA N i G, .slice (some ⟨b, o, none⟩) L.length cap, .int .i64 a] (insO N G (Byt.opdM i (L[a]?.getD []) (L[a + 1]?.getD []) (L[a + 2]?.getD []) (L[a + 3]?.getD []))) w := by
 unfold lnA
 have c0 := fun w hw => a_tokenAt b o cap L hL a (by omega) w hw
 have c1 := fun w hw => a_tokenAt b o cap L hL (a + 1) (by omega) w hw
 have c2 := fun w hw => a_tokenAt b o cap L hL (a + 2) (by omega) w hw
 have c3 := fun w hw => a_tokenAt b o cap L hL (a + 3) (by omega) w hw
 have s0 := Short.get hs a
 obtain ⟨t0, h0⟩ := zn1 (L[a]?.getD [])
 obtain ⟨t1, h1⟩ := zn1 (L[a + 1]?.getD [])
 obtain ⟨t2, h2⟩ := zn1 (L[a + 2]?.getD [])
 obtain ⟨t3, h3⟩ := zn1 (L[a + 3]?.getD [])
 rw [<- h0, <- h1, <- h2, <- h3]
 rw [<- h0] at c0 s0
 rw [<- h1] at c1
 rw [<- h2] at c2
 rw [<- h3] at c3
 clear h0 h1 h2 h3
 obtain ⟨X0, e0⟩ := zn1 (⟨t0.toArray⟩ : ByteArray)
 obtain ⟨X1, e1⟩ := zn1 (⟨t1.toArray⟩ : ByteArray)
 obtain ⟨X2, e2⟩ := zn1 (⟨t2.toArray⟩ : ByteArray)
 obtain ⟨X3, e3⟩ := zn1 (⟨t3.toArray⟩ : ByteArray)
 rw [show Byt.strV t0 = .string X0 by rw [e0]; rfl] at c0
 rw [show Byt.strV t1 = .string X1 by rw [e1]; rfl] at c1
 rw [show Byt.strV t2 = .string X2 by rw [e2]; rfl] at c2
 rw [show Byt.strV t3 = .string X3 by rw [e3]; rfl] at c3
 have f0 : X0.data.toList = t0 := by rw [e0]
 have f1 : X1.data.toList = t1 := by rw [e1]
 have f2 : X2.data.toList = t2 := by rw [e2]
 have f3 : X3.data.toList = t3 := by rw [e3]
 have s0' : X0.size <= 5000 := by rw [e0]; simpa [ByteArray.size] using s0
 clear e0 e1 e2 e3 s0
 subst f0 f1 f2 f3
 have C0 := hide1 c0
 have C1 := hide1 c1
 have C2 := hide1 c2
 have C3 := hide1 c3
 clear c0 c1 c2 c3
 have B2 : Below w.heap.size w ((w.alloc (.cells #[Value.string N, .int .i64 i.op, .int .i64 i.rd, .int .i64 i.rs1, .int .i64 i.rs2, .int .i64 i.im, .int .i64 i.ln, .string G] 165)).alloc (.cells #[Value.string ⟨#[]⟩, .int .i64 0, .int .i64 0, .int .i64 0, .int .i64 0, .int .i64 0, .int .i64 0, .string ⟨#[]⟩] 165)) := zq137
 have hw2 := StrsAt.more hw hb B2
 have HB := hide1 B2
 clear B2
 have q1 : (X1.toList == [40]) = decide (X1.data.toList = [40]) := eq_lit X1 [40]
 have q3 : (X3.toList == [41]) = decide (X3.data.toList = [41]) := eq_lit X3 [41]
 unfold Byt.opdM
 by_cases k1 : X1.data.toList = [40]
 . rw [decide_eq_true k1] at q1
   by_cases k3 : X3.data.toList = [41]
   . rw [decide_eq_true k3] at q3
     obtain ⟨V, hV⟩ := zn1 (Byt.number X0.data.toList)
     rw [<- hV]
     have HV := hide1 hV
     clear hV
     obtain ⟨v, vb⟩ := V
     cases vb with
     | false =>
      rw [if_neg (fun h => by simp at h)]
      clear k1 k3
      go_enter func356, ntmps356
      go_wp2_with fail
      rw [show (a : Int) + 1 = ((a + 1 : Nat) : Int) by omega]
      refine (C1.out _ hw2).mono ?_
      rintro e w1 ⟨rfl, rfl⟩
      go_wp2_with fail
      rw [show (a : Int) + 3 = ((a + 3 : Nat) : Int) by omega]
      refine (C3.out _ hw2).mono ?_
      rintro e w1 ⟨rfl, rfl⟩
      go_wp2_with fail
      refine (C0.out _ hw2).mono ?_
      rintro e w1 ⟨rfl, rfl⟩
      go_wp2_with fail
      refine (a_readNumber X0 s0' _).mono ?_
      rintro e w1 ⟨rfl, rfl⟩
      rw [<- HV.out]
      go_wp2
      refine bodyPost_ret (v := insO N G none) zq511 rfl ⟨rfl, ?_⟩
      repeat (first | exact Below.refl _ _ | (with_reducible refine Below.setCell ?_ (by simp) _) | (with_reducible refine Below.alloc ?_ (by simp) _))
     | true =>
      rw [if_pos ⟨k1, k3, rfl⟩]
      clear k1 k3
      obtain ⟨R, hR⟩ := zn1 (Byt.reg X2.data.toList)
      rw [<- hR]
      have HR := hide1 hR
      clear hR
      cases R with
      | none =>
       go_enter func356, ntmps356
       go_wp2_with fail
       rw [show (a : Int) + 1 = ((a + 1 : Nat) : Int) by omega]
       refine (C1.out _ hw2).mono ?_
       rintro e w1 ⟨rfl, rfl⟩
       go_wp2_with fail
       rw [show (a : Int) + 3 = ((a + 3 : Nat) : Int) by omega]
       refine (C3.out _ hw2).mono ?_
       rintro e w1 ⟨rfl, rfl⟩
       go_wp2_with fail
       refine (C0.out _ hw2).mono ?_
       rintro e w1 ⟨rfl, rfl⟩
       go_wp2_with fail
       refine (a_readNumber X0 s0' _).mono ?_
       rintro e w1 ⟨rfl, rfl⟩
       rw [<- HV.out]
       go_wp2_with fail
       rw [show (a : Int) + 2 = ((a + 2 : Nat) : Int) by omega]
       refine (C2.out _ hw2).mono ?_
       rintro e w1 ⟨rfl, rfl⟩
       go_wp2_with fail
       refine (a_readRegister X2 _).mono ?_
       rintro e w1 ⟨rfl, rfl⟩
       rw [<- HR.out]
       go_wp2
       refine bodyPost_ret (v := insO N G none) zq511 rfl ⟨rfl, ?_⟩
       repeat (first | exact Below.refl _ _ | (with_reducible refine Below.setCell ?_ (by simp) _) | (with_reducible refine Below.alloc ?_ (by simp) _))
      | some r =>
       go_enter func356, ntmps356
       go_wp2_with fail
       rw [show (a : Int) + 1 = ((a + 1 : Nat) : Int) by omega]
       refine (C1.out _ hw2).mono ?_
       rintro e w1 ⟨rfl, rfl⟩
       go_wp2_with fail
       rw [show (a : Int) + 3 = ((a + 3 : Nat) : Int) by omega]
       refine (C3.out _ hw2).mono ?_
       rintro e w1 ⟨rfl, rfl⟩
       go_wp2_with fail
       refine (C0.out _ hw2).mono ?_
       rintro e w1 ⟨rfl, rfl⟩
       go_wp2_with fail
       refine (a_readNumber X0 s0' _).mono ?_
       rintro e w1 ⟨rfl, rfl⟩
       rw [<- HV.out]
       go_wp2_with fail
       rw [show (a : Int) + 2 = ((a + 2 : Nat) : Int) by omega]
       refine (C2.out _ hw2).mono ?_
       rintro e w1 ⟨rfl, rfl⟩
       go_wp2_with fail
       refine (a_readRegister X2 _).mono ?_
       rintro e w1 ⟨rfl, rfl⟩
       rw [<- HR.out]
       go_wp2
       refine bodyPost_ret (v := insO N G (some { i with im := v, rs1 := r })) zq511 rfl ⟨rfl, ?_⟩
       repeat (first | exact Below.refl _ _ | (with_reducible refine Below.setCell ?_ (by simp) _) | (with_reducible refine Below.alloc ?_ (by simp) _))
   . rw [decide_eq_false k3] at q3
     rw [if_neg (fun h => k3 h.2.1)]
     clear k1 k3
     go_enter func356, ntmps356
     go_wp2_with fail
     rw [show (a : Int) + 1 = ((a + 1 : Nat) : Int) by omega]
     refine (C1.out _ hw2).mono ?_
     rintro e w1 ⟨rfl, rfl⟩
     go_wp2_with fail
     rw [show (a : Int) + 3 = ((a + 3 : Nat) : Int) by omega]
     refine (C3.out _ hw2).mono ?_
     exact zq346
 . rw [decide_eq_false k1] at q1
   rw [if_neg (fun h => k1 h.1)]
   clear k1 q3
   go_enter func356, ntmps356
   go_wp2_with fail
   rw [show (a : Int) + 1 = ((a + 1 : Nat) : Int) by omega]
   refine (C1.out _ hw2).mono ?_
   exact zq346
namespace Byt
def opdP (i : Ins) (g : List UInt8) (c : Nat) (T : List (List UInt8)) : Option (Ins × List UInt8) :=
 if c = 100 \/ c = 115 \/ c = 116 then (opdR i c (T[0]?.getD [])).map fun j => (j, g)
 else if c = 109 then (opdM i (T[0]?.getD []) (T[1]?.getD []) (T[2]?.getD []) (T[3]?.getD [])).map fun j => (j, g)
 else if c = 106 /\ isName (T[0]?.getD []) = true then some (i, T[0]?.getD [])
 else (opdN i c (T[0]?.getD [])).map fun j => (j, g)
end Byt
def lnO (N : ByteArray) : Option (Ins × List UInt8) -> Value
 | some (i, g) => .tuple #[lnA N i ⟨g.toArray⟩, .bool true]
 | none => .tuple #[lnA ⟨#[]⟩ ins0 ⟨#[]⟩, .bool false]
theorem lnO_map (N : ByteArray) (g : List UInt8) (o : Option Ins) : lnO N (o.map fun j => (j, g)) = insO N ⟨g.toArray⟩ o := by cases o <;> rfl
theorem a_operandTokens (c : Nat) (w : World) :
 CS 311 #[.int .u8 c] (.int .i64 (if c = 109 then 4 else 1 : Nat)) w := by
 by_cases h : c = 109
 . subst h
   exact zq347
 . rw [if_neg h]
   have h' : ((c : Int) == 109) = false := by simp; omega
   exact zq347
structure Bx (w : World) (b : Nat) (N : ByteArray) (i : Ins) (G : ByteArray) : Prop where
 c0 : w.cell? ⟨b, 0, none⟩ = some (.string N)
 c1 : w.cell? ⟨b, 1, none⟩ = some (.int .i64 i.op)
 c2 : w.cell? ⟨b, 2, none⟩ = some (.int .i64 i.rd)
 c3 : w.cell? ⟨b, 3, none⟩ = some (.int .i64 i.rs1)
 c4 : w.cell? ⟨b, 4, none⟩ = some (.int .i64 i.rs2)
 c5 : w.cell? ⟨b, 5, none⟩ = some (.int .i64 i.im)
 c6 : w.cell? ⟨b, 6, none⟩ = some (.int .i64 i.ln)
 c7 : w.cell? ⟨b, 7, none⟩ = some (.string G)
 fro : ∀ o, w.frozen? ⟨b, o, none⟩ = false
 lt : b < w.heap.size
theorem Bx.more {w w' : World} {b n : Nat} {N G : ByteArray} {i : Ins} (h : Bx w b N i G) (hb : Below n w w') (hn : b < n) : Bx w' b N i G :=
 ⟨(hb.cell (p := ⟨b, 0, none⟩) hn).trans h.c0, (hb.cell (p := ⟨b, 1, none⟩) hn).trans h.c1, (hb.cell (p := ⟨b, 2, none⟩) hn).trans h.c2, (hb.cell (p := ⟨b, 3, none⟩) hn).trans h.c3, (hb.cell (p := ⟨b, 4, none⟩) hn).trans h.c4, (hb.cell (p := ⟨b, 5, none⟩) hn).trans h.c5, (hb.cell (p := ⟨b, 6, none⟩) hn).trans h.c6, (hb.cell (p := ⟨b, 7, none⟩) hn).trans h.c7, fun o => (hb.frozen (p := ⟨b, o, none⟩) hn).trans (h.fro o), by have := hb.size; have := h.lt; omega⟩
def lnC (N : ByteArray) (i : Ins) (G : ByteArray) : Obj := .cells #[.string N, .int .i64 i.op, .int .i64 i.rd, .int .i64 i.rs1, .int .i64 i.rs2, .int .i64 i.im, .int .i64 i.ln, .string G] 165
theorem Bx.new (w : World) (N : ByteArray) (i : Ins) (G : ByteArray) : Bx (w.alloc (lnC N i G)) w.heap.size N i G := by
 unfold lnC
 refine ⟨?_, ?_, ?_, ?_, ?_, ?_, ?_, ?_, ?_, ?_⟩ <;> simp
theorem Bx.alloc {w : World} {b : Nat} {N G : ByteArray} {i : Ins} (h : Bx w b N i G) (o : Obj) : Bx (w.alloc o) b N i G := h.more ((Below.refl w.heap.size w).alloc (Nat.le_refl _) o) h.lt
theorem drop_get (L : List (List UInt8)) (a k : Nat) : (L.drop a)[k]? = L[a + k]? := List.getElem?_drop
theorem a_readOperand (N : ByteArray) (g : List UInt8) (i : Ins) (c : Nat) (hc : c = 100 \/ c = 115 \/ c = 116 \/ c = 109 \/ c = 106 \/ c = 117 \/ c = 105) (b o cap : Nat) (L : List (List UInt8)) (hL : L.length <= 5000) (a : Nat) (ha : a <= 9000) (w : World) (hw : Hid (StrsAt w b o L)) (hb : b < w.heap.size) (hs : Hid (Short L)) :
 CB 310 #[lnA N i ⟨g.toArray⟩, .int .u8 c, .slice (some ⟨b, o, none⟩) L.length cap, .int .i64 a] (lnO N (Byt.opdP i g c (L.drop a))) w := by
 have c0 := fun w hw => a_tokenAt b o cap L hL a (by omega) w hw
 have s0 := Short.get hs a
 have cm := fun (w : World) (hw : Hid (StrsAt w b o L)) (hb : b < w.heap.size) => a_readPlaceOperand N ⟨g.toArray⟩ i b o cap L hL a ha w hw hb hs
 unfold Byt.opdP
 rw [drop_get, drop_get, drop_get, drop_get, Nat.add_zero]
 obtain ⟨t0, h0⟩ := zn1 (L[a]?.getD [])
 rw [<- h0]
 rw [<- h0] at c0 s0 cm
 clear h0
 obtain ⟨X0, e0⟩ := zn1 (⟨t0.toArray⟩ : ByteArray)
 rw [show Byt.strV t0 = .string X0 by rw [e0]; rfl] at c0
 have f0 : X0.data.toList = t0 := by rw [e0]
 have s0' : X0.size <= 5000 := by rw [e0]; simpa [ByteArray.size] using s0
 clear e0 s0
 subst f0
 have C0 := hide1 c0
 have CM := hide1 cm
 clear c0 cm
 obtain ⟨G, hG⟩ := zn1 (⟨g.toArray⟩ : ByteArray)
 have B2 : Below w.heap.size w ((w.alloc (lnC N i G)).alloc (lnC ⟨#[]⟩ ins0 ⟨#[]⟩)) := zq137
 have hw2 := StrsAt.more hw hb B2
 have hb2 : b < ((w.alloc (lnC N i G)).alloc (lnC ⟨#[]⟩ ins0 ⟨#[]⟩)).heap.size := Nat.lt_of_lt_of_le hb B2.size
 have hX : Bx ((w.alloc (lnC N i G)).alloc (lnC ⟨#[]⟩ ins0 ⟨#[]⟩)) (w.heap.size + 1) ⟨#[]⟩ ins0 ⟨#[]⟩ := by
  have h := Bx.new (w.alloc (lnC N i G)) ⟨#[]⟩ ins0 ⟨#[]⟩
  simpa using h
 have HB := hide1 B2
 have HB2 := hide1 hb2
 have HX := hide1 hX
 unfold lnC ins0 at hw2 HB HB2 HX
 clear B2 hb2 hX
 rcases hc with rfl | rfl | rfl | rfl | rfl | rfl | rfl
 . rw [if_pos (by decide), lnO_map, <- hG]
   clear hG
   obtain ⟨O, hO⟩ := zn1 (Byt.opdR i 100 X0.data.toList)
   rw [<- hO]
   have HO := hide1 hO
   clear hO
   unfold lnA
   go_enter func310, ntmps310
   go_wp2_with fail
   refine (C0.out _ hw2).mono ?_
   rintro e w1 ⟨rfl, rfl⟩
   go_wp2_with fail
   refine (a_readRegisterOperand N G i 100 (by decide) X0 _).mono ?_
   exact zq348
 . rw [if_pos (by decide), lnO_map, <- hG]
   clear hG
   obtain ⟨O, hO⟩ := zn1 (Byt.opdR i 115 X0.data.toList)
   rw [<- hO]
   have HO := hide1 hO
   clear hO
   unfold lnA
   go_enter func310, ntmps310
   go_wp2_with fail
   refine (C0.out _ hw2).mono ?_
   rintro e w1 ⟨rfl, rfl⟩
   go_wp2_with fail
   refine (a_readRegisterOperand N G i 115 (by decide) X0 _).mono ?_
   exact zq348
 . rw [if_pos (by decide), lnO_map, <- hG]
   clear hG
   obtain ⟨O, hO⟩ := zn1 (Byt.opdR i 116 X0.data.toList)
   rw [<- hO]
   have HO := hide1 hO
   clear hO
   unfold lnA
   go_enter func310, ntmps310
   go_wp2_with fail
   refine (C0.out _ hw2).mono ?_
   rintro e w1 ⟨rfl, rfl⟩
   go_wp2_with fail
   refine (a_readRegisterOperand N G i 116 (by decide) X0 _).mono ?_
   exact zq348
 . rw [if_neg (by decide), if_pos rfl, lnO_map, <- hG]
   rw [<- hG] at CM
   clear hG
   obtain ⟨O, hO⟩ := zn1 (Byt.opdM i X0.data.toList (L[a + 1]?.getD []) (L[a + 2]?.getD []) (L[a + 3]?.getD []))
   rw [<- hO]
   have HO := hide1 hO
   clear hO
   unfold lnA
   go_enter func310, ntmps310
   go_wp2_with fail
   refine (C0.out _ hw2).mono ?_
   rintro e w1 ⟨rfl, rfl⟩
   go_wp2_with fail
   refine (CM.out _ hw2 HB2.out).mono ?_
   exact zq348
 . rw [if_neg (by decide), if_neg (by decide)]
   cases hn : Byt.isName X0.data.toList
   . rw [if_neg (by simp), lnO_map, <- hG]
     clear hG
     obtain ⟨V, hV⟩ := zn1 (Byt.number X0.data.toList)
     have HV := hide1 hV
     unfold Byt.opdN
     rw [<- hV]
     clear hV
     obtain ⟨v, vb⟩ := V
     cases vb with
     | false =>
      rw [if_neg (by simp)]
      unfold lnA
      go_enter func310, ntmps310
      go_wp2_with fail
      refine (C0.out _ hw2).mono ?_
      rintro e w1 ⟨rfl, rfl⟩
      go_wp2_with fail
      refine (a_isName X0 s0' _).mono ?_
      rintro e w1 ⟨rfl, rfl⟩
      rw [hn]
      go_wp2_with fail
      refine (a_readNumber X0 s0' _).mono ?_
      rintro e w1 ⟨rfl, rfl⟩
      rw [<- HV.out]
      go_wp2
      refine bodyPost_ret (v := insO N G none) zq512 rfl ⟨by first | rfl | simp [lnO, lnA], ?_⟩
      repeat (first | with_reducible exact Below.refl _ _ | with_reducible exact hB.out | (with_reducible refine Below.setCell ?_ (by simp) _) | (with_reducible refine Below.alloc ?_ (by simp) _))
     | true =>
      rw [if_pos rfl]
      unfold lnA
      go_enter func310, ntmps310
      go_wp2_with fail
      refine (C0.out _ hw2).mono ?_
      rintro e w1 ⟨rfl, rfl⟩
      go_wp2_with fail
      refine (a_isName X0 s0' _).mono ?_
      rintro e w1 ⟨rfl, rfl⟩
      rw [hn]
      go_wp2_with fail
      refine (a_readNumber X0 s0' _).mono ?_
      rintro e w1 ⟨rfl, rfl⟩
      rw [<- HV.out]
      go_wp2
      refine bodyPost_ret (v := insO N G (some { i with im := v })) zq512 rfl ⟨by first | rfl | simp [lnO, lnA], ?_⟩
      repeat (first | with_reducible exact Below.refl _ _ | with_reducible exact hB.out | (with_reducible refine Below.setCell ?_ (by simp) _) | (with_reducible refine Below.alloc ?_ (by simp) _))
   . rw [if_pos (by simp)]
     rw [<- hG]
     clear hG
     unfold lnA
     go_enter func310, ntmps310
     go_wp2_with fail
     refine (C0.out _ hw2).mono ?_
     rintro e w1 ⟨rfl, rfl⟩
     go_wp2_with fail
     refine (a_isName X0 s0' _).mono ?_
     rintro e w1 ⟨rfl, rfl⟩
     rw [hn]
     go_wp2
     refine bodyPost_ret (v := .tuple #[lnA N i X0, .bool true]) zq512 rfl ⟨by first | rfl | simp [lnO, lnA], ?_⟩
     repeat (first | with_reducible exact Below.refl _ _ | with_reducible exact hB.out | (with_reducible refine Below.setCell ?_ (by simp) _) | (with_reducible refine Below.alloc ?_ (by simp) _))
 . rw [if_neg (by decide), if_neg (by decide), if_neg (by simp), lnO_map, <- hG]
   clear hG
   obtain ⟨V, hV⟩ := zn1 (Byt.number X0.data.toList)
   have HV := hide1 hV
   unfold Byt.opdN
   rw [<- hV]
   clear hV
   obtain ⟨v, vb⟩ := V
   cases vb with
   | false =>
    rw [if_neg (by simp)]
    unfold lnA
    go_enter func310, ntmps310
    go_wp2_with fail
    refine (C0.out _ hw2).mono ?_
    rintro e w1 ⟨rfl, rfl⟩
    go_wp2_with fail
    refine (a_readNumber X0 s0' _).mono ?_
    rintro e w1 ⟨rfl, rfl⟩
    rw [<- HV.out]
    go_wp2
    refine bodyPost_ret (v := insO N G none) zq512 rfl ⟨by first | rfl | simp [lnO, lnA], ?_⟩
    repeat (first | with_reducible exact Below.refl _ _ | with_reducible exact hB.out | (with_reducible refine Below.setCell ?_ (by simp) _) | (with_reducible refine Below.alloc ?_ (by simp) _))
   | true =>
    rw [if_pos rfl]
    unfold lnA
    go_enter func310, ntmps310
    go_wp2_with fail
    refine (C0.out _ hw2).mono ?_
    rintro e w1 ⟨rfl, rfl⟩
    go_wp2_with fail
    refine (a_readNumber X0 s0' _).mono ?_
    rintro e w1 ⟨rfl, rfl⟩
    rw [<- HV.out]
    go_wp2
    refine bodyPost_ret (v := insO N G (some { i with rs1 := v })) zq512 rfl ⟨by first | rfl | simp [lnO, lnA], ?_⟩
    repeat (first | with_reducible exact Below.refl _ _ | with_reducible exact hB.out | (with_reducible refine Below.setCell ?_ (by simp) _) | (with_reducible refine Below.alloc ?_ (by simp) _))
 . rw [if_neg (by decide), if_neg (by decide), if_neg (by simp), lnO_map, <- hG]
   clear hG
   obtain ⟨V, hV⟩ := zn1 (Byt.number X0.data.toList)
   have HV := hide1 hV
   unfold Byt.opdN
   rw [<- hV]
   clear hV
   obtain ⟨v, vb⟩ := V
   cases vb with
   | false =>
    rw [if_neg (by simp)]
    unfold lnA
    go_enter func310, ntmps310
    go_wp2_with fail
    refine (C0.out _ hw2).mono ?_
    rintro e w1 ⟨rfl, rfl⟩
    go_wp2_with fail
    refine (a_readNumber X0 s0' _).mono ?_
    rintro e w1 ⟨rfl, rfl⟩
    rw [<- HV.out]
    go_wp2
    refine bodyPost_ret (v := insO N G none) zq512 rfl ⟨by first | rfl | simp [lnO, lnA], ?_⟩
    repeat (first | with_reducible exact Below.refl _ _ | with_reducible exact hB.out | (with_reducible refine Below.setCell ?_ (by simp) _) | (with_reducible refine Below.alloc ?_ (by simp) _))
   | true =>
    rw [if_pos rfl]
    unfold lnA
    go_enter func310, ntmps310
    go_wp2_with fail
    refine (C0.out _ hw2).mono ?_
    rintro e w1 ⟨rfl, rfl⟩
    go_wp2_with fail
    refine (a_readNumber X0 s0' _).mono ?_
    rintro e w1 ⟨rfl, rfl⟩
    rw [<- HV.out]
    go_wp2
    refine bodyPost_ret (v := insO N G (some { i with im := v })) zq512 rfl ⟨by first | rfl | simp [lnO, lnA], ?_⟩
    repeat (first | with_reducible exact Below.refl _ _ | with_reducible exact hB.out | (with_reducible refine Below.setCell ?_ (by simp) _) | (with_reducible refine Below.alloc ?_ (by simp) _))
namespace Byt
def cnt (c : Nat) : Nat := if c = 109 then 4 else 1
def opsP : List Nat -> Bool -> Ins -> List UInt8 -> List (List UInt8) -> Option (Ins × List UInt8)
 | [], _, i, g, T => if T.length = 0 then some (i, g) else none
 | c :: cs, m, i, g, T =>
  if m = true /\ T[0]?.getD [] ≠ [44] then none
  else match opdP i g c (T.drop (if m then 1 else 0)) with
   | none => none
   | some (i', g') => opsP cs true i' g' (T.drop ((if m then 1 else 0) + cnt c))
theorem reg_nil : reg [] = none := by decide
theorem number_nil : (number []).2 = false := by decide
theorem isName_nil : isName [] = false := by decide
theorem getD_ne {T : List (List UInt8)} {k : Nat} (h : T[k]?.getD [] ≠ []) : k < T.length := by
 refine Nat.lt_of_not_le fun hk => h ?_
 rw [List.getElem?_eq_none hk]; rfl
theorem opd_len (i : Ins) (g : List UInt8) (c : Nat) (T : List (List UInt8)) (x : Ins × List UInt8) (h : opdP i g c T = some x) : cnt c <= T.length := by
 unfold opdP at h
 unfold cnt
 split at h
 . next hc =>
   rw [if_neg (by omega)]
   have : T[0]?.getD [] ≠ [] := by
    intro e; rw [e] at h; simp [opdR, reg_nil] at h
   have := getD_ne this; omega
 . split at h
   . next hc =>
     rw [if_pos hc]
     simp only [opdM] at h
     split at h
     . next hh =>
       have : T[3]?.getD [] ≠ [] := by rw [hh.2.1]; simp
       have := getD_ne this; omega
     . simp at h
   . next h1 h2 =>
     rw [if_neg h2]
     have : T[0]?.getD [] ≠ [] := by
      intro e
      rw [e] at h; simp [isName_nil, opdN, number_nil] at h
     have := getD_ne this; omega
end Byt
def put8 (w : World) (b : Nat) (N : ByteArray) (i : Ins) (G : ByteArray) : World :=
 (((((((w.setCell ⟨b, 0, none⟩ (.string N)).setCell ⟨b, 1, none⟩ (.int .i64 i.op)).setCell ⟨b, 2, none⟩ (.int .i64 i.rd)).setCell ⟨b, 3, none⟩ (.int .i64 i.rs1)).setCell ⟨b, 4, none⟩ (.int .i64 i.rs2)).setCell ⟨b, 5, none⟩ (.int .i64 i.im)).setCell ⟨b, 6, none⟩ (.int .i64 i.ln)).setCell ⟨b, 7, none⟩ (.string G)
theorem Bx.put {w : World} {b : Nat} {N G N' G' : ByteArray} {i i' : Ins} (h : Bx w b N i G) : Bx (put8 w b N' i' G') b N' i' G' := by
 have h0 := h.c0
 have h1 := h.c1
 have h2 := h.c2
 have h3 := h.c3
 have h4 := h.c4
 have h5 := h.c5
 have h6 := h.c6
 have h7 := h.c7
 have hf := h.fro
 have hl := h.lt
 unfold put8
 refine ⟨?_, ?_, ?_, ?_, ?_, ?_, ?_, ?_, ?_, ?_⟩ <;> simp [go_sem, h0, h1, h2, h3, h4, h5, h6, h7, hf, hl]
theorem below_put8 {n : Nat} {w w' : World} (h : Below n w w') {b : Nat} (hn : n <= b) (N : ByteArray) (i : Ins) (G : ByteArray) : Below n w (put8 w' b N i G) := by
 unfold put8
 repeat (first | with_reducible exact h | (with_reducible refine Below.setCell ?_ hn _))
theorem Bx.put_ne {w : World} {b c : Nat} {N G N' G' : ByteArray} {i i' : Ins} (h : Bx w b N i G) (hbc : b ≠ c) : Bx (put8 w c N' i' G') b N i G := by
 have h0 := h.c0
 have h1 := h.c1
 have h2 := h.c2
 have h3 := h.c3
 have h4 := h.c4
 have h5 := h.c5
 have h6 := h.c6
 have h7 := h.c7
 have hf := h.fro
 have hl := h.lt
 have hcb : ¬ c = b := fun e => hbc e.symm
 unfold put8
 refine ⟨?_, ?_, ?_, ?_, ?_, ?_, ?_, ?_, ?_, ?_⟩ <;> simp [go_sem, h0, h1, h2, h3, h4, h5, h6, h7, hf, hl, hbc, hcb]
def oN (N : ByteArray) (o : Option (Ins × List UInt8)) : ByteArray := if o.isSome then N else ⟨#[]⟩
def oI (o : Option (Ins × List UInt8)) : Ins := (o.map Prod.fst).getD ins0
def oG (o : Option (Ins × List UInt8)) : ByteArray := ⟨((o.map Prod.snd).getD []).toArray⟩
theorem lnO_parts (N : ByteArray) (o : Option (Ins × List UInt8)) : lnO N o = .tuple #[.agg #[.string (oN N o), .int .i64 (oI o).op, .int .i64 (oI o).rd, .int .i64 (oI o).rs1, .int .i64 (oI o).rs2, .int .i64 (oI o).im, .int .i64 (oI o).ln, .string (oG o)], .bool o.isSome] := by
 cases o with
 | none => rfl
 | some x => obtain ⟨i, g⟩ := x; rfl
theorem drop_sh (S : ByteArray) (K : Nat) (h : K < S.size) : (S.data.toList.map UInt8.toNat).drop K = S[K].toNat :: (S.data.toList.map UInt8.toNat).drop (K + 1) := by
 have hl : K < (S.data.toList.map UInt8.toNat).length := by rw [List.length_map, Array.length_toList]; exact h
 rw [List.drop_eq_getElem_cons hl]; simp; rfl
theorem ops_no {cs : List Nat} {c : Nat} {K A : Nat} {i : Ins} {g : List UInt8} {L : List (List UInt8)} (hk : 0 < K) (hc : ¬ L[A]?.getD [] = [44]) : Byt.opsP (c :: cs) (decide (0 < K)) i g (L.drop A) = none := by
 rw [decide_eq_true hk]; simp only [Byt.opsP]; rw [if_pos ⟨trivial, by rw [drop_get, Nat.add_zero]; exact hc⟩]
theorem ops_yes {cs : List Nat} {c : Nat} {K A : Nat} {i : Ins} {g : List UInt8} {L : List (List UInt8)} (hc : 0 < K -> L[A]?.getD [] = [44]) : Byt.opsP (c :: cs) (decide (0 < K)) i g (L.drop A) = match Byt.opdP i g c (L.drop (A + if 0 < K then 1 else 0)) with | none => none | some (x, y) => Byt.opsP cs true x y (L.drop ((A + if 0 < K then 1 else 0) + Byt.cnt c)) := by
 by_cases hk : 0 < K
 . have := hc hk
   rw [decide_eq_true hk, if_pos hk]; simp only [Byt.opsP, if_true]; rw [if_neg (by rw [drop_get, Nat.add_zero]; exact fun h => h.2 this), List.drop_drop, List.drop_drop, Nat.add_assoc]; try rfl
 . rw [decide_eq_false hk, if_neg hk]; simp only [Byt.opsP, Bool.false_eq_true, false_and, if_false]; rw [List.drop_drop, List.drop_drop, Nat.add_zero, Nat.zero_add]; try rfl
theorem endA {w wc w1 : World} {N N1 G G1 : ByteArray} {i I1 : Ins} (hx : Bx wc w.heap.size N i G) (hy : Bx wc (w.heap.size + 1) ⟨#[]⟩ ⟨0, 0, 0, 0, 0, 0⟩ ⟨#[]⟩) (hb : Below w.heap.size w wc) (hb2 : Below wc.heap.size wc.drew w1) :
 Hid (Bx (w1.alloc (lnC N1 I1 G1)) w1.heap.size N1 I1 G1 /\ Bx (w1.alloc (lnC N1 I1 G1)) w.heap.size N i G /\ Bx (w1.alloc (lnC N1 I1 G1)) (w.heap.size + 1) ⟨#[]⟩ ⟨0, 0, 0, 0, 0, 0⟩ ⟨#[]⟩ /\ Below w.heap.size w (w1.alloc (lnC N1 I1 G1)) /\ w.heap.size + 2 <= w1.heap.size) := by
 have h3 : Below wc.heap.size wc w1 := (Below.refl _ _).drew.trans hb2
 have hl := hy.lt
 have hs := h3.size
 exact ⟨Bx.new _ _ _ _, (hx.more h3 hx.lt).alloc _, (hy.more h3 hy.lt).alloc _, (hb.trans (h3.mono hb.size)).alloc (by omega) _, by omega⟩
theorem endB {w wc w1 : World} {N N1 G G1 : ByteArray} {i I1 : Ins} (hx : Bx wc w.heap.size N i G) (hy : Bx wc (w.heap.size + 1) ⟨#[]⟩ ⟨0, 0, 0, 0, 0, 0⟩ ⟨#[]⟩) (hb : Below w.heap.size w wc) (h3 : Below wc.heap.size wc w1) (hz : Bx w1 wc.heap.size ⟨#[]⟩ ⟨0, 0, 0, 0, 0, 0⟩ ⟨#[]⟩) :
 Hid (Bx (put8 w1 wc.heap.size N1 I1 G1) wc.heap.size N1 I1 G1 /\ Bx (put8 w1 wc.heap.size N1 I1 G1) w.heap.size N i G /\ Bx (put8 w1 wc.heap.size N1 I1 G1) (w.heap.size + 1) ⟨#[]⟩ ⟨0, 0, 0, 0, 0, 0⟩ ⟨#[]⟩ /\ Below w.heap.size w (put8 w1 wc.heap.size N1 I1 G1) /\ w.heap.size + 2 <= wc.heap.size) := by
 have hl := hy.lt
 have hl2 := hx.lt
 exact ⟨hz.put, (hx.more h3 hx.lt).put_ne (by omega), (hy.more h3 hy.lt).put_ne (by omega), below_put8 (hb.trans (h3.mono hb.size)) (by omega) _ _ _, by omega⟩
theorem a_readOperands (N : ByteArray) (i : Ins) (g : List UInt8) (S : ByteArray) (hS : Hid (Nm.shape i.op = S)) (hlen : S.size <= 8) (hlet : Hid (∀ k (h : k < S.size), S[k].toNat = 100 \/ S[k].toNat = 115 \/ S[k].toNat = 116 \/ S[k].toNat = 109 \/ S[k].toNat = 106 \/ S[k].toNat = 117 \/ S[k].toNat = 105))
 (b o cap : Nat) (L : List (List UInt8)) (hL : L.length <= 5000) (w : World) (hw : Hid (StrsAt w b o L)) (hb : b < w.heap.size) (hs : Hid (Short L)) :
 CB 222 #[lnA N i ⟨g.toArray⟩, .slice (some ⟨b, o, none⟩) L.length cap] (lnO N (Byt.opsP (S.data.toList.map UInt8.toNat) false i g L)) w := by
 obtain ⟨T, hT⟩ := zn1 (Byt.opsP (S.data.toList.map UInt8.toNat) false i g L)
 rw [<- hT]
 have HT := hide1 hT
 clear hT
 obtain ⟨G, hG⟩ := zn1 (⟨g.toArray⟩ : ByteArray)
 rw [<- hG]
 have B2 : Below w.heap.size w ((w.alloc (lnC N i G)).alloc (lnC ⟨#[]⟩ ins0 ⟨#[]⟩)) := zq137
 have hX : Bx ((w.alloc (lnC N i G)).alloc (lnC ⟨#[]⟩ ins0 ⟨#[]⟩)) (w.heap.size + 1) ⟨#[]⟩ ins0 ⟨#[]⟩ := by
  have h := Bx.new (w.alloc (lnC N i G)) ⟨#[]⟩ ins0 ⟨#[]⟩
  simpa using h
 have hY : Bx ((w.alloc (lnC N i G)).alloc (lnC ⟨#[]⟩ ins0 ⟨#[]⟩)) w.heap.size N i G := (Bx.new w N i G).alloc _
 have HB := hide1 B2
 have HX := hide1 hX
 have HY := hide1 hY
 have HG := hide1 hG
 unfold lnC ins0 at HB HX HY
 clear B2 hX hY hG
 unfold lnA
 go_enter func222, ntmps222
 go_wp2_with (go_at_call 215; refine (a_Shape i.op _).mono ?_; rintro e w' ⟨rfl, rfl⟩; rw [hS.out])
 go_loopw [7, 8] (fun a k wr => ∃ (A K : Nat) (i' : Ins) (g' : List UInt8), A <= L.length /\ K <= S.size /\ a = .int .i64 A /\ k = .int .i64 K /\ Hid (Bx wr w.heap.size N i' ⟨g'.toArray⟩) /\ Hid (Bx wr (w.heap.size + 1) ⟨#[]⟩ ⟨0, 0, 0, 0, 0, 0⟩ ⟨#[]⟩) /\ Hid (Below w.heap.size w wr) /\ Hid (T = Byt.opsP ((S.data.toList.map UInt8.toNat).drop K) (decide (0 < K)) i' g' (L.drop A))) (fun _ k _ => S.size - (intOf k).toNat)
 case atStart => exact ⟨0, 0, i, g, by omega, by omega, rfl, rfl, by rw [<- HG.out]; exact HY, HX, HB, by simpa using HT⟩
 case round =>
  obtain ⟨A, K, i', g', hA, hK, rfl, rfl, hx, hy, hb1, hh⟩ := hrel
  clear HB HX HY HG HT
  by_cases hlt : K < S.size
  . rw [drop_sh S K hlt] at hh
    obtain ⟨c, hc⟩ := zn1 (S[K].toNat)
    rw [<- hc] at hh
    have hcl := hlet.out K hlt
    rw [<- hc] at hcl
    have HC := hide1 hc
    have HCL := hide1 hcl
    clear hc hcl
    have hws := StrsAt.more hw hb hb1.out
    have hbr : b < wr.heap.size := Nat.lt_of_lt_of_le hb hb1.out.size
    obtain ⟨A', hA'⟩ : ∃ A', A' = A + if 0 < K then 1 else 0 := ⟨_, rfl⟩
    have hAl : A' <= 9000 := by rw [hA']; split <;> omega
    have HA := hide1 hA'
    clear hA'
    go_upto_if 22 with fail
    go_cut [7] from 22 to 29 (fun a wx => a = .int .i64 (A' : Int) /\ wx = wr /\ Hid (0 < K -> L[A]?.getD [] = [44]))
    case first =>
     by_cases hk : 0 < K
     . have hk' : decide (0 < K) = true := by simp [hk]
       have c0 := fun w hw => a_tokenAt b o cap L hL A (by omega) w hw
       obtain ⟨t0, h0⟩ := zn1 (L[A]?.getD [])
       rw [<- h0] at c0
       have H0 := hide1 h0
       clear h0
       obtain ⟨X0, e0⟩ := zn1 (⟨t0.toArray⟩ : ByteArray)
       rw [show Byt.strV t0 = .string X0 by rw [e0]; rfl] at c0
       have f0 : X0.data.toList = t0 := by rw [e0]
       clear e0
       rw [<- f0] at H0
       clear f0
       have C0 := hide1 c0
       clear c0
       have q1 : (X0.toList == [44]) = decide (X0.data.toList = [44]) := eq_lit X0 [44]
       by_cases k1 : X0.data.toList = [44]
       . rw [decide_eq_true k1] at q1
         have HK1 := hide1 k1
         have hA1 : Hid ((A' : Int) = A + 1) := by
          have := HA.out
          rw [if_pos hk] at this
          show (A' : Int) = A + 1
          omega
         clear k1 HA
         go_wp2_with (go_at_call 309; refine (C0.out _ hws).mono ?_; rintro e w' ⟨rfl, rfl⟩)
         go_meet
         case rel => exact ⟨by rw [hA1.out], rfl, fun _ => by rw [<- H0.out]; exact HK1.out⟩
       . rw [decide_eq_false k1] at q1
         have hno : Hid (T = none) := by
          show T = none
          rw [hh.out]
          exact ops_no hk (by rw [<- H0.out]; exact k1)
         clear k1 HA hh
         have z0 := hy.out.c0
         have z1 := hy.out.c1
         have z2 := hy.out.c2
         have z3 := hy.out.c3
         have z4 := hy.out.c4
         have z5 := hy.out.c5
         have z6 := hy.out.c6
         have z7 := hy.out.c7
         have zf := hy.out.fro
         have zl := hy.out.lt
         go_wp2_with (go_at_call 309; refine (C0.out _ hws).mono ?_; rintro e w' ⟨rfl, rfl⟩)
         refine bodyPost_ret (v := lnO N none) zq513 rfl ⟨by rw [hno.out], ?_⟩
         exact zq349
     . have hk' : decide (0 < K) = false := by simp [hk]
       have hA1 : Hid ((A' : Int) = A) := by
        have := HA.out
        rw [if_neg hk] at this
        show (A' : Int) = A
        omega
       have HK := hide1 hk
       obtain rfl : K = 0 := by omega
       clear hk hk' HA
       go_wp2
       go_meet
       case rel => exact ⟨by rw [hA1.out], rfl, fun h => absurd h HK.out⟩
    case rest =>
     obtain ⟨rfl, rfl, hcm⟩ := hcut
     rw [ops_yes hcm.out, <- HA.out] at hh
     have hcc := HC.out
     obtain ⟨O, hO⟩ := zn1 (Byt.opdP i' g' c (L.drop A'))
     rw [<- hO] at hh
     have hOl : O.isSome = true -> A' + Byt.cnt c <= L.length := by
      intro h
      obtain ⟨x, hx⟩ := Option.isSome_iff_exists.1 h
      have h1 := Byt.opd_len i' g' c (L.drop A') x (by rw [<- hO]; exact hx)
      rw [List.length_drop] at h1
      have : 1 <= Byt.cnt c := by unfold Byt.cnt; split <;> omega
      omega
     have HOl := hide1 hOl
     have hcall : ∀ W : World, Below wc.heap.size wc W -> CB 310 #[.agg #[.string N, .int .i64 i'.op, .int .i64 i'.rd, .int .i64 i'.rs1, .int .i64 i'.rs2, .int .i64 i'.im, .int .i64 i'.ln, .string ⟨g'.toArray⟩], .int .u8 c, .slice (some ⟨b, o, none⟩) L.length cap, .int .i64 A'] (.tuple #[.agg #[.string (oN N O), .int .i64 (oI O).op, .int .i64 (oI O).rd, .int .i64 (oI O).rs1, .int .i64 (oI O).rs2, .int .i64 (oI O).im, .int .i64 (oI O).ln, .string (oG O)], .bool O.isSome]) W := by
      intro W hW
      have h := a_readOperand N g' i' c HCL.out b o cap L hL A' hAl W (StrsAt.more hws hbr hW) (Nat.lt_of_lt_of_le hbr hW.size) hs
      rw [<- hO, lnO_parts] at h
      exact h
     have hci : S[K].toNat = c := hcc.symm
     clear hOl hO HA hcm HC hcc
     have x0 := hx.out.c0
     have x1 := hx.out.c1
     have x2 := hx.out.c2
     have x3 := hx.out.c3
     have x4 := hx.out.c4
     have x5 := hx.out.c5
     have x6 := hx.out.c6
     have x7 := hx.out.c7
     have xf := hx.out.fro
     have xl := hx.out.lt
     obtain ⟨I1, hI1⟩ := zn1 (oI O)
     obtain ⟨N1, hN1⟩ := zn1 (oN N O)
     obtain ⟨G1, hG1⟩ := zn1 (oG O)
     obtain ⟨ob, hob⟩ := zn1 (O.isSome)
     rw [<- hI1, <- hN1, <- hG1, <- hob] at hcall
     have HP := hide1 (And.intro hI1 (And.intro hN1 (And.intro hG1 hob)))
     clear hI1 hN1 hG1 hob
     have HCA := hide1 ((hcall wc.drew (Below.refl _ _).drew).mono fun e w1 h => (⟨h.1, h.2⟩ : _ /\ Below wc.heap.size wc.drew w1))
     have hnz := (Bx.new wc ⟨#[]⟩ ⟨0, 0, 0, 0, 0, 0⟩ ⟨#[]⟩).more (w' := (wc.alloc (lnC ⟨#[]⟩ ⟨0, 0, 0, 0, 0, 0⟩ ⟨#[]⟩)).drew) (n := wc.heap.size + 1) ((Below.refl _ _).drew) (by omega)
     have hwz : Below wc.heap.size wc (wc.alloc (lnC ⟨#[]⟩ ⟨0, 0, 0, 0, 0, 0⟩ ⟨#[]⟩)).drew := ((Below.refl _ _).alloc (Nat.le_refl _) _).drew
     have HCB := hide1 ((hcall (wc.alloc (lnC ⟨#[]⟩ ⟨0, 0, 0, 0, 0, 0⟩ ⟨#[]⟩)).drew hwz).mono fun e w1 h => (⟨h.1, hwz.trans (h.2.mono hwz.size), hide1 (hnz.more h.2 hnz.lt)⟩ : _ /\ Below wc.heap.size wc w1 /\ Hid (Bx w1 wc.heap.size ⟨#[]⟩ ⟨0, 0, 0, 0, 0, 0⟩ ⟨#[]⟩)))
     unfold lnC at HCB
     clear hcall hnz hwz
     go_upto_region 10 with fail
     go_cut [9, 10] from 30 to 39 (fun p q wx => ∃ nb : Nat, p = .pointer (some ⟨nb, 0, none⟩) /\ q = .bool ob /\ Hid (Bx wx nb N1 I1 G1 /\ Bx wx w.heap.size N i' ⟨g'.toArray⟩ /\ Bx wx (w.heap.size + 1) ⟨#[]⟩ ⟨0, 0, 0, 0, 0, 0⟩ ⟨#[]⟩ /\ Below w.heap.size w wx /\ w.heap.size + 2 <= nb))
     case first =>
      go_region_with (go_at_call 310; first | (with_reducible refine HCA.out.mono ?_; rintro e w1 ⟨rfl, hb2⟩) | (with_reducible refine HCB.out.mono ?_; rintro e w1 ⟨rfl, hb2, hz⟩; have z0 := hz.out.c0; have z1 := hz.out.c1; have z2 := hz.out.c2; have z3 := hz.out.c3; have z4 := hz.out.c4; have z5 := hz.out.c5; have z6 := hz.out.c6; have z7 := hz.out.c7; have zf := hz.out.fro; have zl := hz.out.lt))
      all_goals (go_wp2_with fail; go_meet)
      all_goals first | (refine ⟨w1.heap.size, by with_reducible rfl, rfl, ?_⟩; exact endA hx.out hy.out hb1.out hb2) | (refine ⟨wc.heap.size, by with_reducible rfl, rfl, ?_⟩; exact endB hx.out hy.out hb1.out hb2 hz.out)
     case rest =>
      obtain ⟨nb, rfl, rfl, hq⟩ := hcut
      clear HCA HCB x0 x1 x2 x3 x4 x5 x6 x7 xf xl hx hy hb1 hws hbr hw hs
      have hx := hq.out.2.1
      have hy := hq.out.2.2.1
      have hz := hq.out.1
      have hb1 := hide1 hq.out.2.2.2.1
      have hnb := hq.out.2.2.2.2
      have HX := hide1 hx
      have HY := hide1 hy
      have x0 := hx.c0
      have x1 := hx.c1
      have x2 := hx.c2
      have x3 := hx.c3
      have x4 := hx.c4
      have x5 := hx.c5
      have x6 := hx.c6
      have x7 := hx.c7
      have xf := hx.fro
      have xl := hx.lt
      have y0 := hz.c0
      have y1 := hz.c1
      have y2 := hz.c2
      have y3 := hz.c3
      have y4 := hz.c4
      have y5 := hz.c5
      have y6 := hz.c6
      have y7 := hz.c7
      have yf := hz.fro
      have yl := hz.lt
      have z0 := hy.c0
      have z1 := hy.c1
      have z2 := hy.c2
      have z3 := hy.c3
      have z4 := hy.c4
      have z5 := hy.c5
      have z6 := hy.c6
      have z7 := hy.c7
      have zf := hy.fro
      have zl := hy.lt
      clear hx hy hz hq
      cases O with
      | none =>
       obtain ⟨h1, h2, h3, h4⟩ := HP.out
       have h4' : ob = false := h4
       subst h4'
       have hno : Hid (T = none) := hh
       clear h1 h2 h3 h4 HP hh HOl
       go_wp2
       refine bodyPost_ret (v := lnO N none) zq513 rfl ⟨by rw [hno.out], ?_⟩
       repeat (first | with_reducible exact Below.refl _ _ | with_reducible exact hb1.out | (with_reducible refine Below.setCell ?_ (by simp) _) | (with_reducible refine Below.alloc ?_ (by simp) _))
      | some r =>
       obtain ⟨x, y⟩ := r
       obtain ⟨h1, h2, h3, h4⟩ := HP.out
       have h4' : ob = true := h4
       subst h4'
       have h1' : I1 = x := h1
       have h2' : N1 = N := h2
       have h3' : G1 = ⟨y.toArray⟩ := h3
       subst h1' h2' h3'
       have hgo : Hid (T = Byt.opsP ((S.data.toList.map UInt8.toNat).drop (K + 1)) true I1 y (L.drop (A' + Byt.cnt c))) := hh
       have hAK : A' + Byt.cnt c <= L.length := HOl.out rfl
       clear h1 h2 h3 h4 HP hh HOl
       have hop : ∀ W, CS 311 #[.int .u8 c] (.int .i64 (Byt.cnt c : Nat)) W := fun W => a_operandTokens c W
       obtain ⟨Q, hQ⟩ := zn1 (Byt.cnt c)
       rw [<- hQ] at hop hAK hgo
       have HOP := hide1 hop
       clear hop hQ
       go_wp2_with (go_at_call 311; refine (HOP.out _).mono ?_; rintro e w' ⟨rfl, rfl⟩)
       go_roundw
       case rel =>
        first
         | exact ⟨A' + Q, K + 1, I1, y, hAK, by omega, by go_num, by go_num, hide1 (Bx.put HX.out), hide1 (HY.out.put_ne (by omega)), hide1 (below_put8 hb1.out (Nat.le_refl _) _ _ _), by rw [decide_eq_true (Nat.succ_pos K)]; exact hgo⟩
         | ((repeat apply Exists.intro); exact ⟨⟨A' + Q, K + 1, I1, y, hAK, by omega, by go_num, by go_num, hide1 (Bx.put HX.out), hide1 (HY.out.put_ne (by omega)), hide1 (below_put8 hb1.out (Nat.le_refl _) _ _ _), by rw [decide_eq_true (Nat.succ_pos K)]; exact hgo⟩, rfl⟩)
       case measure => exact zq186
  . have hlt' : decide ((K : Int) < (S.size : Int)) = false := by simp; omega
    have hx' := hx.out
    have hy' := hy.out
    have x0 := hx'.c0
    have x1 := hx'.c1
    have x2 := hx'.c2
    have x3 := hx'.c3
    have x4 := hx'.c4
    have x5 := hx'.c5
    have x6 := hx'.c6
    have x7 := hx'.c7
    have xf := hx'.fro
    have xl := hx'.lt
    have z0 := hy'.c0
    have z1 := hy'.c1
    have z2 := hy'.c2
    have z3 := hy'.c3
    have z4 := hy'.c4
    have z5 := hy'.c5
    have z6 := hy'.c6
    have z7 := hy'.c7
    have zf := hy'.fro
    have zl := hy'.lt
    clear hx' hy'
    rw [List.drop_eq_nil_of_le (by rw [List.length_map, Array.length_toList]; show S.size <= K; omega)] at hh
    by_cases hAL : A = L.length
    . have hT : Hid (T = some (i', g')) := by
       show T = _
       rw [hh.out]; simp only [Byt.opsP]; rw [if_pos (by rw [List.length_drop]; omega)]
      have q1 : ((A : Int) != (L.length : Int)) = false := by simp; omega
      have q2 : (A != L.length) = false := by simp; omega
      clear hh
      go_wp2
      refine bodyPost_ret (v := lnO N (some (i', g'))) (by simp [results, results222, go_sem, lnO, lnA, ins0, x0, x1, x2, x3, x4, x5, x6, x7, xf, xl, z0, z1, z2, z3, z4, z5, z6, z7, zf, zl]) rfl ⟨by rw [hT.out], ?_⟩
      exact zq349
    . have hT : Hid (T = none) := by
       show T = _
       rw [hh.out]; simp only [Byt.opsP]; rw [if_neg (by rw [List.length_drop]; omega)]
      have q1 : ((A : Int) != (L.length : Int)) = true := by simp; omega
      have q2 : (A != L.length) = true := by simp; omega
      clear hh
      go_wp2
      refine bodyPost_ret (v := lnO N none) zq513 rfl ⟨by rw [hT.out], ?_⟩
      exact zq349
namespace Byt
def nls : List UInt8 -> Nat
 | [] => 0
 | c :: l => (if c.toNat = 10 then 1 else 0) + nls l
def findN : List Ln -> List UInt8 -> Nat
 | [], _ => 0
 | l :: L, n => if l.nm = n then 0 else findN L n + 1
theorem findN_le : ∀ L n, findN L n <= L.length
 | [], _ => Nat.le_refl _
 | l :: L, n => by have := findN_le L n; simp only [findN, List.length_cons]; split <;> omega
def shp (op : Nat) : List Nat := (Nm.shape op).data.toList.map UInt8.toNat
def readR (nm : List UInt8) (T : List (List UInt8)) : Int × Ln :=
 match T with
 | [] => (0, ⟨nm, ins0, []⟩)
 | t :: T => if (wrd t).2 = 0 then (5, ln0) else
  match opsP (shp (wrd t).1) false ⟨(wrd t).1, 0, 0, 0, 0, (wrd t).2⟩ [] T with
  | none => (6, ln0)
  | some (i, g) => (0, ⟨nm, i, g⟩)
def readLn (T : List (List UInt8)) (E : List Ln) : Int × Ln :=
 if 1 < T.length /\ T[1]?.getD [] = [58] then
  if isName (T[0]?.getD []) = true then
   if findN E (T[0]?.getD []) < E.length then (9, ln0) else readR (T[0]?.getD []) (T.drop 2)
  else (5, ln0)
 else readR [] T
def segs (pre : List UInt8) : List UInt8 -> List (List UInt8)
 | [] => [pre]
 | c :: l => if c.toNat = 10 then pre :: segs [] l else segs (pre ++ [c]) l
def readAll : List Ln -> List (List UInt8) -> List Ln × Int × Nat
 | E, [] => (E, 0, 0)
 | E, t :: ts => if (readLn (tok t.length t) E).1 = 0 then readAll (E ++ [(readLn (tok t.length t) E).2]) ts else ([], (readLn (tok t.length t) E).1, E.length + 1)
def place : List Ln -> Nat -> Int
 | [], _ => 0
 | _, 0 => 0
 | l :: L, n + 1 => l.i.ln + place L n
def dataD (v least most : Int) : Int × Int := if v < least \/ most < v then (0, 7) else (v, 0)
def wordD (i : Ins) : Int × Int :=
 if i.ln = 0 then (0, 0) else if i.op = 71 then dataD i.im (-2147483648) 4294967295 else if i.op = 72 then dataD i.im (-32768) 65535 else
 if (encodeD i).2 = 0 then ((encodeD i).1, 0) else (0, 7)
def leB (v : Int) (n : Nat) : List UInt8 := (strOfNums (leL v n)).data.toList
def aimed (L : List Ln) (l : Ln) (n : Nat) : Ins := if l.tg = [] then l.i else { l.i with im := place L (findN L l.tg) - n }
def lay (L : List Ln) : List Ln -> Nat -> List UInt8 -> List UInt8 × Int × Nat
 | [], _, m => (m, 0, 0)
 | l :: ls, k, m =>
  if l.tg ≠ [] /\ findN L l.tg = L.length then ([], 8, k + 1) else
  if (wordD (aimed L l m.length)).2 = 0 then lay L ls (k + 1) (m ++ leB (wordD (aimed L l m.length)).1 l.i.ln.toNat) else ([], (wordD (aimed L l m.length)).2, k + 1)
def asmD (t : List UInt8) : List UInt8 × Int × Nat :=
 if 4096 < t.length then ([], 1, 0) else if 256 < 1 + nls t then ([], 4, 0) else
 if (readAll [] (segs [] t)).2.1 = 0 then lay (readAll [] (segs [] t)).1 (readAll [] (segs [] t)).1 0 [] else ([], (readAll [] (segs [] t)).2.1, (readAll [] (segs [] t)).2.2)
end Byt
theorem a_countLines (s : ByteArray) (hs : s.size <= 5000) (w : World) :
 CS 113 #[.string s] (.int .i64 ((1 + Byt.nls s.data.toList : Nat) : Int)) w := by
 obtain ⟨T, hT⟩ := zn1 (1 + Byt.nls s.data.toList)
 rw [<- hT]
 have HT := hide1 hT
 clear hT
 go_enter func113, ntmps113
 go_wp2
 go_loop [3, 4] (fun c d => ∃ a n : Nat, a <= s.size /\ n <= 1 + a /\ c = .int .i64 n /\ d = .int .i64 a /\ Hid (T = n + Byt.nls (s.data.toList.drop a))) (fun _ d => s.size - (intOf d).toNat)
 case atStart => exact ⟨0, 1, by omega, by omega, rfl, rfl, HT⟩
 case round =>
  obtain ⟨a, n, ha, hn, rfl, rfl, hh⟩ := hrel
  by_cases hlt : a < s.size
  . have hv : T = n + ((if s[a].toNat = 10 then 1 else 0) + Byt.nls (s.data.toList.drop (a + 1))) := by rw [hh.out, dropb s a hlt]; rfl
    by_cases hc : s[a].toNat = 10
    . have hc' : ((s[a].toNat : Int) == 10) = true := by simp; omega
      rw [if_pos hc] at hv
      have HV := hide1 hv
      clear hv hh HT hc
      go_wp2
      go_round
      case rel => exact ⟨a + 1, n + 1, by omega, by omega, by go_num, by go_num, by show T = _; rw [HV.out]; omega⟩
      case measure => exact zq186
    . have hc' : ((s[a].toNat : Int) == 10) = false := by simp; omega
      rw [if_neg hc] at hv
      have HV := hide1 hv
      clear hv hh HT hc
      go_wp2
      go_round
      case rel => exact ⟨a + 1, n, by omega, by omega, rfl, by go_num, by show T = _; rw [HV.out]; omega⟩
      case measure => exact zq186
  . have hlt' : decide ((a : Int) < (s.size : Int)) = false := by simp; omega
    have hT : Hid (T = n) := (by rw [hh.out, List.drop_eq_nil_of_le (by simp; omega)]; rfl : T = n)
    clear hh HT
    exact zq189
structure Cx (w : World) (b o : Nat) (l : Ln) : Prop where
 c0 : w.cell? ⟨b, o, none⟩ = some (.string ⟨l.nm.toArray⟩)
 c1 : w.cell? ⟨b, o + 1, none⟩ = some (.int .i64 l.i.op)
 c2 : w.cell? ⟨b, o + 2, none⟩ = some (.int .i64 l.i.rd)
 c3 : w.cell? ⟨b, o + 3, none⟩ = some (.int .i64 l.i.rs1)
 c4 : w.cell? ⟨b, o + 4, none⟩ = some (.int .i64 l.i.rs2)
 c5 : w.cell? ⟨b, o + 5, none⟩ = some (.int .i64 l.i.im)
 c6 : w.cell? ⟨b, o + 6, none⟩ = some (.int .i64 l.i.ln)
 c7 : w.cell? ⟨b, o + 7, none⟩ = some (.string ⟨l.tg.toArray⟩)
def LnsAt (w : World) (p : Option Addr) (L : List Ln) : Prop := L = [] \/ ∃ b, p = some ⟨b, 0, none⟩ /\ ∀ j (h : j < L.length), Cx w b (j * 8) L[j]
theorem findN_drop (L : List Ln) (n : List UInt8) (a : Nat) (h : a < L.length) : a + Byt.findN (L.drop a) n = if L[a].nm = n then a else (a + 1) + Byt.findN (L.drop (a + 1)) n := by
 rw [List.drop_eq_getElem_cons h]; simp only [Byt.findN]; split <;> omega
theorem a_findName (p : Option Addr) (cap : Nat) (L : List Ln) (hL : L.length <= 5000) (s : ByteArray) (w : World) (hw : Hid (LnsAt w p L)) :
 CS 153 #[.slice p L.length cap, .string s] (.int .i64 (Byt.findN L s.data.toList)) w := by
 obtain ⟨T, hT⟩ := zn1 (Byt.findN L s.data.toList)
 rw [<- hT]
 have HT := hide1 hT
 clear hT
 go_enter func153, ntmps153
 go_wp2
 go_loop [5] (fun d => ∃ a : Nat, a <= L.length /\ d = .int .i64 a /\ Hid (T = a + Byt.findN (L.drop a) s.data.toList)) (fun d => L.length - (intOf d).toNat)
 case atStart => exact ⟨0, by omega, rfl, by simpa using HT⟩
 case round =>
  obtain ⟨a, ha, rfl, hh⟩ := hrel
  by_cases hlt : a < L.length
  . rcases hw.out with h0 | ⟨b, rfl, hcx⟩
    . exact zq350
    have h0 := (hcx a hlt).c0
    rw [findN_drop L _ a hlt] at hh
    clear hcx hw HT
    obtain ⟨X, hX⟩ := zn1 (⟨L[a].nm.toArray⟩ : ByteArray)
    have he := eq_str s X _ hX
    rw [<- hX] at h0
    by_cases hc : s.data.toList = L[a].nm
    . rw [if_pos hc.symm] at hh
      rw [decide_eq_true hc] at he
      have he' : (X.toList == s.toList) = true := by rw [beq_iff_eq] at he |-; exact he.symm
      clear hc hX he
      go_wp2
      go_ret
      exact ⟨by rw [hh.out]; rfl, rfl⟩
    . rw [if_neg (fun h => hc h.symm)] at hh
      rw [decide_eq_false hc] at he
      have he' : (X.toList == s.toList) = false := by rw [beq_eq_false_iff_ne] at he |-; exact fun h => he h.symm
      clear hc hX he
      go_wp2
      go_round
      case rel => exact ⟨a + 1, by omega, by go_num, hh⟩
      case measure => exact zq186
  . have hT : Hid (T = L.length) := (by rw [hh.out, List.drop_eq_nil_of_le (by omega)]; simp [Byt.findN]; omega : T = L.length)
    clear hh HT hw
    exact zq189
theorem place_drop (L : List Ln) (n a : Nat) (h1 : a < L.length) (h2 : a < n) : Byt.place (L.drop a) (n - a) = L[a].i.ln + Byt.place (L.drop (a + 1)) (n - (a + 1)) := by
 rw [List.drop_eq_getElem_cons h1, show n - a = (n - (a + 1)) + 1 by omega]; rfl
def Tidy (L : List Ln) : Prop := ∀ l ∈ L, l.i.ln = 0 \/ l.i.ln = 2 \/ l.i.ln = 4
theorem a_placeOf (p : Option Addr) (cap : Nat) (L : List Ln) (hL : L.length <= 5000) (hd : Hid (Tidy L)) (n : Nat) (hn : n <= 5000) (w : World) (hw : Hid (LnsAt w p L)) :
 CS 154 #[.slice p L.length cap, .int .i64 n] (.int .i64 (Byt.place L n)) w := by
 obtain ⟨T, hT⟩ := zn1 (Byt.place L n)
 rw [<- hT]
 have HT := hide1 hT
 clear hT
 go_enter func154, ntmps154
 go_wp2
 go_loop [5, 6] (fun c d => ∃ (a : Nat) (q : Nat), a <= L.length /\ a <= n /\ q <= 4 * a /\ c = .int .i64 q /\ d = .int .i64 a /\ Hid (T = q + Byt.place (L.drop a) (n - a))) (fun _ d => L.length - (intOf d).toNat)
 case atStart => exact ⟨0, 0, by omega, by omega, by omega, rfl, rfl, by simpa using HT⟩
 case round =>
  obtain ⟨a, q, ha, han, hq, rfl, rfl, hh⟩ := hrel
  by_cases hlt : a < L.length
  . by_cases hln : a < n
    . rcases hw.out with h0 | ⟨b, rfl, hcx⟩
      . exact zq350
      have h0 := (hcx a hlt).c6
      rw [place_drop L n a hlt hln] at hh
      have hz := hd.out L[a] (List.getElem_mem hlt)
      obtain ⟨z, hz', hz4⟩ : ∃ z : Nat, L[a].i.ln = z /\ z <= 4 := ⟨L[a].i.ln.toNat, by omega, by omega⟩
      rw [hz'] at h0 hh
      clear hcx hw HT hd hz hz'
      go_wp2
      go_round
      case rel => exact ⟨a + 1, q + z, by omega, by omega, by omega, by go_num, by go_num, by show T = _; rw [hh.out]; simp; omega⟩
      case measure => exact zq186
    . have hT : Hid (T = q) := (by rw [hh.out, show n - a = 0 by omega]; cases L.drop a <;> simp [Byt.place] : T = q)
      clear hh HT hw hd
      exact zq189
  . have hT : Hid (T = q) := (by rw [hh.out, List.drop_eq_nil_of_le (by omega)]; simp [Byt.place] : T = q)
    clear hh HT hw hd
    go_wp2
    all_goals go_ret
    all_goals exact ⟨by rw [hT.out]; rfl, rfl⟩
theorem a_dataOf (v a b : Int) (w : World) :
 CS 223 #[.int .i64 v, .int .i64 a, .int .i64 b] (.tuple #[.int .i64 (if v < a \/ b < v then 0 else v), .int .i64 (if v < a \/ b < v then 7 else 0)]) w := by
 by_cases h1 : v < a
 . rw [if_pos (Or.inl h1), if_pos (Or.inl h1)]
   exact zq351
 . by_cases h2 : b < v
   . rw [if_pos (Or.inr h2), if_pos (Or.inr h2)]
     exact zq351
   . rw [if_neg (by omega), if_neg (by omega)]
     exact zq351
end Go.Proofs.YtmlgonbhoknoiabGreatDoor
