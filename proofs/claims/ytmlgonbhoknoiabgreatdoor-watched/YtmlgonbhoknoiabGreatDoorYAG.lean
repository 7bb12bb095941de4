import Derived.Test.YtmlgonbhoknoiabGreatDoorYAF
set_option maxHeartbeats 8000000
set_option linter.all false
namespace Go.Proofs.YtmlgonbhoknoiabGreatDoor
open Go.RowKit Go.Proofs.Tryz
section
attribute [local go_sem ↓] Go.wp_at_zero Go.wp_at_succ
theorem x_load_y2u (mb rb X) (hX : XOk X) (i : NI) (hi : NIOk i) (hf : (reachD X.b (xC X) (vaD X i) (nD i.op) 1).1.fault = 0) (h2 : 0 < (reachD X.b (xC X) (vaD X i) (nD i.op) 1).1.n2) (hs : ¬ (i.op = 11 \/ i.op = 12)) (w) (hw : Hid (XAt w mb rb X)) :
 CX 199 #[.pointer (some ⟨mb, 0, none⟩), niV i] (excA (ldX X i).1.1 (ldX X i).1.2) [mb, rb] mb rb ((ldX X i).2) w := by
 have hlt := hw.out.lt
 have hrlt := hw.out.rlt
 have hlt' : ¬ mb = w.heap.size := by omega
 have i0 := hi.im0
 have i1 := hi.im1
 have ha := hX.xr i.rs1
 have A1 := hide1 (fun W h => x_register mb rb X i.rs1 hi.rs1 W h)
 have hwa : Hid (XAt ((w.alloc (niC i)).alloc (.cells #[.int .i64 0, .int .i64 0] 118)) mb rb X) := zq22
 have hva : vaD X i < 4294967296 := zq51
 have hnn := nD_le i.op
 have RE := hide1 (fun W h => x_reach mb rb X hX (vaD X i) (nD i.op) 1 hva hnn.1 hnn.2 (.inr (.inl rfl)) W h)
 have AS : Hid (∀ W, CS 268 #[.int .i64 i.op] (.int .i64 (nD i.op)) W) := zq52
 have WD : Hid (∀ W, CS 135 #[.int .i64 ((X.x.getD i.rs1 0 : Int) + i.im)] (.int .i64 (vaD X i)) W) := zq53
 have wr : IntKind.i64.wrap ((X.x.getD i.rs1 0 : Int) + i.im) = (X.x.getD i.rs1 0 : Int) + i.im := zq9
 have hok := reach_ok hX.b (xC X) (vaD X i) (nD i.op) 1
 have hsp := reach_sp X.b (xC X) (vaD X i) (nD i.op) 1 hva hnn.1
 have htk := reach_takes X.b (xC X) (vaD X i) (nD i.op) 1
 have hle := reach_len X.b (xC X) (vaD X i) (nD i.op) 1
 unfold ldX ldF
 obtain ⟨S, hS⟩ := zn1 (reachD X.b (xC X) (vaD X i) (nD i.op) 1)
 simp only [<- hS] at RE hok hsp htk hle hf h2 |-
 obtain ⟨va, hvv⟩ := zn1 (vaD X i)
 obtain ⟨n, hnv⟩ := zn1 (nD i.op)
 obtain ⟨a, hae⟩ := zn1 (X.x.getD i.rs1 0)
 simp only [<- hvv] at RE WD
 simp only [<- hnv] at RE AS hsp hnn
 simp only [<- hae] at A1 WD wr ha
 clear hS hvv hae
 obtain ⟨⟨pa1, n1, pa2, n2, ft, wh⟩, B⟩ := S
 have hXB := XS.okB hX hok
 rw [<- hle] at htk
 dsimp only at RE hok hsp htk hle hf h2 hXB |-
 rw [if_pos hf]
 subst hf
 have htk := htk rfl
 have hx32 := hX.x
 have hrd := hi.rd
 have sp1 := hsp.n1 rfl
 have sps := hsp.sum rfl
 have spp1 := hsp.pa1
 have spp2 := hsp.pa2
 dsimp only at sp1 sps spp1 spp2
 unfold niC at hwa
 unfold niV
 rw [show spV ⟨pa1, n1, pa2, n2, 0, wh⟩ 1 = .tuple #[.agg #[.int .i64 pa1, .int .i64 n1], .agg #[.int .i64 pa2, .int .i64 n2], .agg #[.int .i64 (-1), .int .i64 0]] from rfl] at RE
 have R1 := hide1 (fun W h => x_read mb rb (X.withB B) hok pa1 n1 spp1 sp1 (by omega) htk.1 W h)
 have r1ok := readD_ok hok pa1 n1
 have r1lt := readD_lt hok pa1 n1 sp1
 have r1len := readD_len B pa1 n1
 have eB : (X.withB B).b = B := rfl
 rw [eB] at R1
 have R2 := hide1 (fun W h => x_read mb rb (X.withB (readD B pa1 n1).2) r1ok pa2 n2 spp2 (by omega) (by omega) zq515 W h)
 have r2lt := readD_lt r1ok pa2 n2 (by omega)
 rw [show (X.withB (readD B pa1 n1).2).b = (readD B pa1 n1).2 from rfl] at R2
 unfold loadD
 dsimp only
 rw [if_pos h2]
 obtain ⟨T1, hT1⟩ := zn1 (readD B pa1 n1)
 simp only [<- hT1] at R1 r1ok r1lt R2 r2lt |-
 clear hT1
 obtain ⟨u, B1⟩ := T1
 have hBB : (X.withB B).withB B1 = X.withB B1 := rfl
 rw [hBB] at R1
 obtain ⟨T2, hT2⟩ := zn1 (readD B1 pa2 n2)
 simp only [<- hT2] at R2 r2lt |-
 clear hT2
 obtain ⟨v, B2⟩ := T2
 have hBB2 : (X.withB B1).withB B2 = X.withB B2 := rfl
 rw [hBB2] at R2
 obtain ⟨s, hse⟩ := zn1 (8 * n1)
 have hs64 : s <= 32 := by omega
 have e8 : (8 : Int) * (n1 : Int) = (s : Int) := by omega
 have hp := mul_pow256 u v n1 n2 n r1lt r2lt sps hnn.2
 have epow : (2 : Int) ^ s = ((256 ^ n1 : Nat) : Int) := by
  have e1 : (2 : Nat) ^ (8 * n1) = 256 ^ n1 := by rw [Nat.pow_mul]
  rw [hse, <- e1]; simp
 obtain ⟨z, hz⟩ := zn1 (v * 256 ^ n1)
 have hzl : u + z < 4294967296 := by rw [hz]; exact hp
 have wv : wrap64 ((v : Int) * 2 ^ s) = (z : Int) := by
  rw [hz]
  rw [epow, <- Int.natCast_mul]
  exact wrap_small _ zq516 zq517
 obtain ⟨V, hV⟩ := zn1 ((u + v * 256 ^ n1))
 have hVl : V < 4294967296 := by rw [hV]; exact hp
 have SR := hide1 (fun W h => x_setRegister mb rb (X.withB B2) hx32 i.rd (ldvD i.op (u + v * 256 ^ n1)) hrd W h)
 have eL : ldvD i.op V = V := by unfold ldvD; rw [if_neg hs]
 rw [<- hV] at SR |-
 rw [eL] at SR |-
 have eV : (u : Int) + (z : Int) = (V : Int) := by rw [hV, hz]; simp
 have q11 : (i.op == 11) = false := by simp; omega
 have q12 : (i.op == 12) = false := by simp; omega
 obtain ⟨op, rd, rs1, rs2, im, ln⟩ := i
 dsimp only at *
 unfold excA
 clear hw hX hi htk hsp hle hok hXB hnv hnn hva hse hV hp eL r1ok r1lt r1len epow r2lt h2 hz hs hx32 hrd sps
 go_enter func199, ntmps199
 go_upto_region 1 with fail
 go_quiet ((first | (go_at_call 39; first | exact Calls.quiet_of_same (A1.out _ hwa) | exact Calls.quiet_of_same (A1.out _ (hide1 (hwa.out.drewN _))) | exact Calls.quiet_of_same (A1.out _ (hide1 hwa.out.drew))) | (go_at_call 135; exact Calls.quiet_of_same (WD.out _))))
 go_wp2_with (go_at_call 268; refine (AS.out _).mono ?_; rintro o w2 ⟨rfl, rfl⟩)
 refine (RE.out _ (hide1 (hwa.out.drewN _))).mono ?_
 rintro o w1 ⟨rfl, hx1, hk1⟩
 obtain ⟨ic0w1, ic1w1, ic2w1, ic3w1, ic4w1, ic5w1, ifw1, izw1, izw11, inw11, izw12, inw12, izw13, inw13, izw14, inw14⟩ : Zc6 w1 w.heap.size op rd rs1 rs2 im ln := zq157
 obtain ⟨rc0w1, rc1w1, rfw1, rzw1, rzw11, rnw11, rzw12, rnw12, rzw13, rnw13, rzw14, rnw14⟩ : Zc2 w1 (w.heap.size + 1) 0 0 := zq158
 have hx1a := hide1 ((((hx1.alloc (.cells #[.int .i64 pa1, .int .i64 n1] 231)).alloc (.cells #[.int .i64 pa2, .int .i64 n2] 231)).alloc (.cells #[.int .i64 (-1), .int .i64 0] 118)).alloc (.cells #[.int .i64 (-1), .int .i64 0] 118))
 go_wp2_with (first | (go_at_call 82; refine (x_none _ _ _).mono ?_; rintro o wn ⟨rfl, rfl⟩))
 refine (R1.out _ hx1a).mono ?_
 rintro o w2 ⟨rfl, hx2, hk2⟩
 obtain ⟨ic0w2, ic1w2, ic2w2, ic3w2, ic4w2, ic5w2, ifw2, izw2, izw21, inw21, izw22, inw22, izw23, inw23, izw24, inw24⟩ : Zc6 w2 w.heap.size op rd rs1 rs2 im ln := zq159
 obtain ⟨rc0w2, rc1w2, rfw2, rzw2, rzw21, rnw21, rzw22, rnw22, rzw23, rnw23, rzw24, rnw24⟩ : Zc2 w2 (w.heap.size + 1) 0 0 := zq160
 obtain ⟨fc0w2, fc1w2, ffw2, fzw2, fzw21, fnw21, fzw22, fnw22, fzw23, fnw23, fzw24, fnw24⟩ : Zc2 w2 w1.heap.size pa1 n1 := zq161
 obtain ⟨sc0w2, sc1w2, sfw2, szw2, szw21, snw21, szw22, snw22, szw23, snw23, szw24, snw24⟩ : Zc2 w2 (w1.heap.size + 1) pa2 n2 := zq162
 go_wp2_with fail
 refine (R2.out _ (hide1 hx2)).mono ?_
 rintro o w3 ⟨rfl, hx3, hk3⟩
 exact zq275
theorem x_load_y2s (mb rb X) (hX : XOk X) (i : NI) (hi : NIOk i) (hf : (reachD X.b (xC X) (vaD X i) (nD i.op) 1).1.fault = 0) (h2 : 0 < (reachD X.b (xC X) (vaD X i) (nD i.op) 1).1.n2) (hs : i.op = 11 \/ i.op = 12) (w) (hw : Hid (XAt w mb rb X)) :
 CX 199 #[.pointer (some ⟨mb, 0, none⟩), niV i] (excA (ldX X i).1.1 (ldX X i).1.2) [mb, rb] mb rb ((ldX X i).2) w := by
 have hlt := hw.out.lt
 have hrlt := hw.out.rlt
 have hlt' : ¬ mb = w.heap.size := by omega
 have i0 := hi.im0
 have i1 := hi.im1
 have ha := hX.xr i.rs1
 have A1 := hide1 (fun W h => x_register mb rb X i.rs1 hi.rs1 W h)
 have hwa : Hid (XAt ((w.alloc (niC i)).alloc (.cells #[.int .i64 0, .int .i64 0] 118)) mb rb X) := zq22
 have hva : vaD X i < 4294967296 := zq51
 have hnn := nD_le i.op
 have RE := hide1 (fun W h => x_reach mb rb X hX (vaD X i) (nD i.op) 1 hva hnn.1 hnn.2 (.inr (.inl rfl)) W h)
 have AS : Hid (∀ W, CS 268 #[.int .i64 i.op] (.int .i64 (nD i.op)) W) := zq52
 have WD : Hid (∀ W, CS 135 #[.int .i64 ((X.x.getD i.rs1 0 : Int) + i.im)] (.int .i64 (vaD X i)) W) := zq53
 have wr : IntKind.i64.wrap ((X.x.getD i.rs1 0 : Int) + i.im) = (X.x.getD i.rs1 0 : Int) + i.im := zq9
 have hok := reach_ok hX.b (xC X) (vaD X i) (nD i.op) 1
 have hsp := reach_sp X.b (xC X) (vaD X i) (nD i.op) 1 hva hnn.1
 have htk := reach_takes X.b (xC X) (vaD X i) (nD i.op) 1
 have hle := reach_len X.b (xC X) (vaD X i) (nD i.op) 1
 unfold ldX ldF
 obtain ⟨S, hS⟩ := zn1 (reachD X.b (xC X) (vaD X i) (nD i.op) 1)
 simp only [<- hS] at RE hok hsp htk hle hf h2 |-
 obtain ⟨va, hvv⟩ := zn1 (vaD X i)
 obtain ⟨n, hnv⟩ := zn1 (nD i.op)
 obtain ⟨a, hae⟩ := zn1 (X.x.getD i.rs1 0)
 simp only [<- hvv] at RE WD
 simp only [<- hnv] at RE AS hsp hnn
 simp only [<- hae] at A1 WD wr ha
 clear hS hvv hae
 obtain ⟨⟨pa1, n1, pa2, n2, ft, wh⟩, B⟩ := S
 have hXB := XS.okB hX hok
 rw [<- hle] at htk
 dsimp only at RE hok hsp htk hle hf h2 hXB |-
 rw [if_pos hf]
 subst hf
 have htk := htk rfl
 have hx32 := hX.x
 have hrd := hi.rd
 have sp1 := hsp.n1 rfl
 have sps := hsp.sum rfl
 have spp1 := hsp.pa1
 have spp2 := hsp.pa2
 dsimp only at sp1 sps spp1 spp2
 unfold niC at hwa
 unfold niV
 rw [show spV ⟨pa1, n1, pa2, n2, 0, wh⟩ 1 = .tuple #[.agg #[.int .i64 pa1, .int .i64 n1], .agg #[.int .i64 pa2, .int .i64 n2], .agg #[.int .i64 (-1), .int .i64 0]] from rfl] at RE
 have R1 := hide1 (fun W h => x_read mb rb (X.withB B) hok pa1 n1 spp1 sp1 (by omega) htk.1 W h)
 have r1ok := readD_ok hok pa1 n1
 have r1lt := readD_lt hok pa1 n1 sp1
 have r1len := readD_len B pa1 n1
 have eB : (X.withB B).b = B := rfl
 rw [eB] at R1
 have R2 := hide1 (fun W h => x_read mb rb (X.withB (readD B pa1 n1).2) r1ok pa2 n2 spp2 (by omega) (by omega) zq515 W h)
 have r2lt := readD_lt r1ok pa2 n2 (by omega)
 rw [show (X.withB (readD B pa1 n1).2).b = (readD B pa1 n1).2 from rfl] at R2
 unfold loadD
 dsimp only
 rw [if_pos h2]
 obtain ⟨T1, hT1⟩ := zn1 (readD B pa1 n1)
 simp only [<- hT1] at R1 r1ok r1lt R2 r2lt |-
 clear hT1
 obtain ⟨u, B1⟩ := T1
 have hBB : (X.withB B).withB B1 = X.withB B1 := rfl
 rw [hBB] at R1
 obtain ⟨T2, hT2⟩ := zn1 (readD B1 pa2 n2)
 simp only [<- hT2] at R2 r2lt |-
 clear hT2
 obtain ⟨v, B2⟩ := T2
 have hBB2 : (X.withB B1).withB B2 = X.withB B2 := rfl
 rw [hBB2] at R2
 obtain ⟨s, hse⟩ := zn1 (8 * n1)
 have hs64 : s <= 32 := by omega
 have e8 : (8 : Int) * (n1 : Int) = (s : Int) := by omega
 have hp := mul_pow256 u v n1 n2 n r1lt r2lt sps hnn.2
 have epow : (2 : Int) ^ s = ((256 ^ n1 : Nat) : Int) := by
  have e1 : (2 : Nat) ^ (8 * n1) = 256 ^ n1 := by rw [Nat.pow_mul]
  rw [hse, <- e1]; simp
 obtain ⟨z, hz⟩ := zn1 (v * 256 ^ n1)
 have hzl : u + z < 4294967296 := by rw [hz]; exact hp
 have wv : wrap64 ((v : Int) * 2 ^ s) = (z : Int) := by
  rw [hz]
  rw [epow, <- Int.natCast_mul]
  exact wrap_small _ zq516 zq517
 obtain ⟨V, hV⟩ := zn1 ((u + v * 256 ^ n1))
 have hVl : V < 4294967296 := by rw [hV]; exact hp
 have SR := hide1 (fun W h => x_setRegister mb rb (X.withB B2) hx32 i.rd (ldvD i.op (u + v * 256 ^ n1)) hrd W h)
 have EX : Hid (∀ W, CS 270 #[.int .i64 V, .int .i64 (nD i.op)] (.int .i64 (xextD V (xaccD i.op))) W) := zq73
 have W2 := hide1 (x_word (xextD V (xaccD i.op)))
 have eL : ldvD i.op V = wordN (xextD V (xaccD i.op)) := by unfold ldvD; rw [if_pos hs]
 rw [<- hV] at SR |-
 rw [<- hnv] at EX
 rw [eL] at SR |-
 obtain ⟨xv, hxv⟩ := zn1 (xextD V (xaccD i.op))
 simp only [<- hxv] at EX W2 SR |-
 obtain ⟨yv, hyv⟩ := zn1 (wordN xv)
 simp only [<- hyv] at W2 SR |-
 have eV : (u : Int) + (z : Int) = (V : Int) := by rw [hV, hz]; simp
 obtain ⟨op, rd, rs1, rs2, im, ln⟩ := i
 dsimp only at *
 unfold excA
 clear hw hX hi htk hsp hle hok hXB hnv hnn hva hse hV hp eL r1ok r1lt r1len epow r2lt h2 hz hxv hyv hx32 hrd sps
 rcases hs with hs | hs
 . have q11 : (op == 11) = true := by simp [hs]
   have q12 : (op == 12) = false := by simp [hs]
   exact zq277
 . have q11 : (op == 11) = false := by simp [hs]
   have q12 : (op == 12) = true := by simp [hs]
   exact zq277
theorem x_load (mb rb X) (hX : XOk X) (i : NI) (hi : NIOk i) (w) (hw : Hid (XAt w mb rb X)) :
 CX 199 #[.pointer (some ⟨mb, 0, none⟩), niV i] (excA (ldX X i).1.1 (ldX X i).1.2) [mb, rb] mb rb ((ldX X i).2) w := by
 by_cases hf : (reachD X.b (xC X) (vaD X i) (nD i.op) 1).1.fault = 0
 . by_cases h2 : (reachD X.b (xC X) (vaD X i) (nD i.op) 1).1.n2 = 0
   . by_cases h11 : i.op = 11 \/ i.op = 12
     . exact x_load_y1s mb rb X hX i hi hf h2 h11 w hw
     exact x_load_y1u mb rb X hX i hi hf h2 h11 w hw
   . by_cases h11 : i.op = 11 \/ i.op = 12
     . exact x_load_y2s mb rb X hX i hi hf (Nat.pos_of_ne_zero h2) h11 w hw
     exact x_load_y2u mb rb X hX i hi hf (Nat.pos_of_ne_zero h2) h11 w hw
 . exact x_load_f mb rb X hX i hi hf w hw
def stF (X : XS) (i : NI) (S : Spn × BusS) : (Int × Nat) × XS :=
 if S.1.fault = 0 then ((-1, 0), X.withB (storeD S.2 S.1 (X.x.getD i.rs2 0))) else ((xfauD S.1.fault 2, S.1.wh), X.withB S.2)
def stX (X : XS) (i : NI) : (Int × Nat) × XS := stF X i (reachD X.b (xC X) (vaD X i) (nD i.op) 2)
theorem x_store_f (mb rb X) (hX : XOk X) (i : NI) (hi : NIOk i) (hf : (reachD X.b (xC X) (vaD X i) (nD i.op) 2).1.fault ≠ 0) (w) (hw : Hid (XAt w mb rb X)) :
 CX 200 #[.pointer (some ⟨mb, 0, none⟩), niV i] (excA (stX X i).1.1 (stX X i).1.2) [mb, rb] mb rb ((stX X i).2) w := by
 have hlt := hw.out.lt
 have hrlt := hw.out.rlt
 have hlt' : ¬ mb = w.heap.size := by omega
 have i0 := hi.im0
 have i1 := hi.im1
 have ha := hX.xr i.rs1
 have A1 := hide1 (fun W h => x_register mb rb X i.rs1 hi.rs1 W h)
 have hwa : Hid (XAt ((w.alloc (niC i)).alloc (.cells #[.int .i64 0, .int .i64 0] 118)) mb rb X) := zq22
 have hva : vaD X i < 4294967296 := zq51
 have hnn := nD_le i.op
 have RE := hide1 (fun W h => x_reach mb rb X hX (vaD X i) (nD i.op) 2 hva hnn.1 hnn.2 (.inr (.inr rfl)) W h)
 have AS : Hid (∀ W, CS 268 #[.int .i64 i.op] (.int .i64 (nD i.op)) W) := zq52
 have WD : Hid (∀ W, CS 135 #[.int .i64 ((X.x.getD i.rs1 0 : Int) + i.im)] (.int .i64 (vaD X i)) W) := zq53
 have wr : IntKind.i64.wrap ((X.x.getD i.rs1 0 : Int) + i.im) = (X.x.getD i.rs1 0 : Int) + i.im := zq9
 have hok := reach_ok hX.b (xC X) (vaD X i) (nD i.op) 2
 have hsp := reach_sp X.b (xC X) (vaD X i) (nD i.op) 2 hva hnn.1
 have htk := reach_takes X.b (xC X) (vaD X i) (nD i.op) 2
 have hle := reach_len X.b (xC X) (vaD X i) (nD i.op) 2
 unfold stX stF
 obtain ⟨S, hS⟩ := zn1 (reachD X.b (xC X) (vaD X i) (nD i.op) 2)
 simp only [<- hS] at RE hok hsp htk hle hf |-
 obtain ⟨va, hvv⟩ := zn1 (vaD X i)
 obtain ⟨n, hnv⟩ := zn1 (nD i.op)
 obtain ⟨a, hae⟩ := zn1 (X.x.getD i.rs1 0)
 simp only [<- hvv] at RE WD
 simp only [<- hnv] at RE AS hsp hnn
 simp only [<- hae] at A1 WD wr ha
 clear hS hvv hae
 obtain ⟨⟨pa1, n1, pa2, n2, ft, wh⟩, B⟩ := S
 have hXB := XS.okB hX hok
 rw [<- hle] at htk
 dsimp only at RE hok hsp htk hle hf hXB |-
 rw [if_neg hf]
 unfold niC at hwa
 unfold niV
 obtain ⟨op, rd, rs1, rs2, im, ln⟩ := i
 dsimp only at *
 rw [show spV ⟨pa1, n1, pa2, n2, ft, wh⟩ 2 = .tuple #[.agg #[.int .i64 0, .int .i64 0], .agg #[.int .i64 0, .int .i64 0], .agg #[.int .i64 (xfauD ft 2), .int .i64 wh]] by unfold spV; dsimp only; rw [if_neg hf]; rfl] at RE
 have hn := xfau_ne ft 2
 obtain ⟨c, hc⟩ := zn1 (xfauD ft 2)
 simp only [<- hc] at RE hn |-
 unfold excA
 clear hw hX hi hc hf htk hsp hle hok hXB hnv hnn hva
 go_enter func200, ntmps200
 go_upto_region 1 with fail
 go_quiet ((first | (go_at_call 39; first | exact Calls.quiet_of_same (A1.out _ hwa) | exact Calls.quiet_of_same (A1.out _ (hide1 (hwa.out.drewN _))) | exact Calls.quiet_of_same (A1.out _ (hide1 hwa.out.drew))) | (go_at_call 135; exact Calls.quiet_of_same (WD.out _))))
 go_wp2_with (go_at_call 268; refine (AS.out _).mono ?_; rintro o w2 ⟨rfl, rfl⟩)
 refine (RE.out _ (hide1 (hwa.out.drewN _))).mono ?_
 rintro o w1 ⟨rfl, hx1, hk1⟩
 obtain ⟨rc0w1, rc1w1, rfw1, rzw1, rzw11, rnw11, rzw12, rnw12, rzw13, rnw13, rzw14, rnw14⟩ : Zc2 w1 (w.heap.size + 1) 0 0 := zq158
 go_wp2_with (first | (go_at_call 82; refine (x_none _ _ _).mono ?_; rintro o wn ⟨rfl, rfl⟩))
 refine bodyPost_ret (v := .agg #[.int .i64 c, .int .i64 wh]) (by simp [results, results200, go_sem, rc0w1, rc1w1, rzw1, rzw11, rnw11, rzw12, rnw12, rzw13, rnw13, rzw14, rnw14, Nat.ne_of_lt, Nat.ne_of_gt]) rfl ⟨rfl, hx1.box (w.heap.size + 1) ?_ (by omega) (by omega), ?_⟩
 . exact zq273
 . exact zq274
theorem x_store_y1 (mb rb X) (hX : XOk X) (i : NI) (hi : NIOk i) (hf : (reachD X.b (xC X) (vaD X i) (nD i.op) 2).1.fault = 0) (h2 : (reachD X.b (xC X) (vaD X i) (nD i.op) 2).1.n2 = 0) (w) (hw : Hid (XAt w mb rb X)) :
 CX 200 #[.pointer (some ⟨mb, 0, none⟩), niV i] (excA (stX X i).1.1 (stX X i).1.2) [mb, rb] mb rb ((stX X i).2) w := by
 have hlt := hw.out.lt
 have hrlt := hw.out.rlt
 have hlt' : ¬ mb = w.heap.size := by omega
 have i0 := hi.im0
 have i1 := hi.im1
 have ha := hX.xr i.rs1
 have A1 := hide1 (fun W h => x_register mb rb X i.rs1 hi.rs1 W h)
 have hwa : Hid (XAt ((w.alloc (niC i)).alloc (.cells #[.int .i64 0, .int .i64 0] 118)) mb rb X) := zq22
 have hva : vaD X i < 4294967296 := zq51
 have hnn := nD_le i.op
 have RE := hide1 (fun W h => x_reach mb rb X hX (vaD X i) (nD i.op) 2 hva hnn.1 hnn.2 (.inr (.inr rfl)) W h)
 have AS : Hid (∀ W, CS 268 #[.int .i64 i.op] (.int .i64 (nD i.op)) W) := zq52
 have WD : Hid (∀ W, CS 135 #[.int .i64 ((X.x.getD i.rs1 0 : Int) + i.im)] (.int .i64 (vaD X i)) W) := zq53
 have wr : IntKind.i64.wrap ((X.x.getD i.rs1 0 : Int) + i.im) = (X.x.getD i.rs1 0 : Int) + i.im := zq9
 have hok := reach_ok hX.b (xC X) (vaD X i) (nD i.op) 2
 have hsp := reach_sp X.b (xC X) (vaD X i) (nD i.op) 2 hva hnn.1
 have htk := reach_takes X.b (xC X) (vaD X i) (nD i.op) 2
 have hle := reach_len X.b (xC X) (vaD X i) (nD i.op) 2
 unfold stX stF
 obtain ⟨S, hS⟩ := zn1 (reachD X.b (xC X) (vaD X i) (nD i.op) 2)
 simp only [<- hS] at RE hok hsp htk hle hf h2 |-
 obtain ⟨va, hvv⟩ := zn1 (vaD X i)
 obtain ⟨n, hnv⟩ := zn1 (nD i.op)
 obtain ⟨a, hae⟩ := zn1 (X.x.getD i.rs1 0)
 simp only [<- hvv] at RE WD
 simp only [<- hnv] at RE AS hsp hnn
 simp only [<- hae] at A1 WD wr ha
 clear hS hvv hae
 obtain ⟨⟨pa1, n1, pa2, n2, ft, wh⟩, B⟩ := S
 have hXB := XS.okB hX hok
 rw [<- hle] at htk
 dsimp only at RE hok hsp htk hle hf h2 hXB |-
 rw [if_pos hf]
 subst hf
 have htk := htk rfl
 have hb := hX.xr i.rs2
 have sp1 := hsp.n1 rfl
 have sps := hsp.sum rfl
 have spp1 := hsp.pa1
 have spp2 := hsp.pa2
 dsimp only at sp1 sps spp1 spp2
 subst h2
 unfold niC at hwa
 unfold niV
 rw [show spV ⟨pa1, n1, pa2, 0, 0, wh⟩ 2 = .tuple #[.agg #[.int .i64 pa1, .int .i64 n1], .agg #[.int .i64 pa2, .int .i64 0], .agg #[.int .i64 (-1), .int .i64 0]] from rfl] at RE
 have AR := hide1 (fun W h => x_register mb rb (X.withB B) i.rs2 hi.rs2 W h)
 have eX : (X.withB B).x = X.x := rfl
 rw [eX] at AR
 obtain ⟨v, hve⟩ := zn1 (X.x.getD i.rs2 0)
 simp only [<- hve] at AR hb |-
 have R1 := hide1 (fun W h => x_write mb rb (X.withB B) hok pa1 n1 v spp1 sp1 (by omega) hb htk.1 W h)
 have r1ok := writeD_ok hok pa1 n1 v hb
 have r1len := writeD_len B pa1 n1 v
 have eB : (X.withB B).b = B := rfl
 rw [eB] at R1
 unfold storeD
 dsimp only
 rw [if_neg (by omega)]
 obtain ⟨B1, hT1⟩ := zn1 (writeD B pa1 n1 v)
 simp only [<- hT1] at R1 r1ok  |-
 clear hT1
 have hBB : (X.withB B).withB B1 = X.withB B1 := rfl
 rw [hBB] at R1
 obtain ⟨s, hse⟩ := zn1 (8 * n1)
 have hs64 : s <= 32 := by omega
 have e8 : (8 : Int) * (n1 : Int) = (s : Int) := by omega
 have we8 : IntKind.i64.wrap (s : Int) = (s : Int) := zq9
 have epow : (2 : Int) ^ s = ((256 ^ n1 : Nat) : Int) := by
  have e1 : (2 : Nat) ^ (8 * n1) = 256 ^ n1 := by rw [Nat.pow_mul]
  rw [hse, <- e1]; simp
 obtain ⟨z, hz⟩ := zn1 (v / 256 ^ n1)
 have sh : (v : Int) / 2 ^ s = (z : Int) := by rw [epow, hz]; simp
 obtain ⟨op, rd, rs1, rs2, im, ln⟩ := i
 dsimp only at *
 unfold excA
 clear hw hX hi htk hsp hle hok hXB hnv hnn hva hse hz epow r1ok r1len hve sps hb
 go_enter func200, ntmps200
 go_upto_region 1 with fail
 go_quiet ((first | (go_at_call 39; first | exact Calls.quiet_of_same (A1.out _ hwa) | exact Calls.quiet_of_same (A1.out _ (hide1 (hwa.out.drewN _))) | exact Calls.quiet_of_same (A1.out _ (hide1 hwa.out.drew))) | (go_at_call 135; exact Calls.quiet_of_same (WD.out _))))
 go_wp2_with (go_at_call 268; refine (AS.out _).mono ?_; rintro o w2 ⟨rfl, rfl⟩)
 refine (RE.out _ (hide1 (hwa.out.drewN _))).mono ?_
 rintro o w1 ⟨rfl, hx1, hk1⟩
 obtain ⟨ic0w1, ic1w1, ic2w1, ic3w1, ic4w1, ic5w1, ifw1, izw1, izw11, inw11, izw12, inw12, izw13, inw13, izw14, inw14⟩ : Zc6 w1 w.heap.size op rd rs1 rs2 im ln := zq157
 obtain ⟨rc0w1, rc1w1, rfw1, rzw1, rzw11, rnw11, rzw12, rnw12, rzw13, rnw13, rzw14, rnw14⟩ : Zc2 w1 (w.heap.size + 1) 0 0 := zq158
 have hx1a := hide1 ((((hx1.alloc (.cells #[.int .i64 pa1, .int .i64 n1] 231)).alloc (.cells #[.int .i64 pa2, .int .i64 0] 231)).alloc (.cells #[.int .i64 (-1), .int .i64 0] 118)).alloc (.cells #[.int .i64 (-1), .int .i64 0] 118))
 go_wp2_with (first | (go_at_call 82; refine (x_none _ _ _).mono ?_; rintro o wn ⟨rfl, rfl⟩) | (go_at_call 39; refine (AR.out _ hx1a).mono ?_; rintro o w5 ⟨rfl, rfl⟩))
 refine (R1.out _ hx1a).mono ?_
 rintro o w2 ⟨rfl, hx2, hk2⟩
 obtain ⟨rc0w2, rc1w2, rfw2, rzw2, rzw21, rnw21, rzw22, rnw22, rzw23, rnw23, rzw24, rnw24⟩ : Zc2 w2 (w.heap.size + 1) 0 0 := zq160
 obtain ⟨fc0w2, fc1w2, ffw2, fzw2, fzw21, fnw21, fzw22, fnw22, fzw23, fnw23, fzw24, fnw24⟩ : Zc2 w2 w1.heap.size pa1 n1 := zq161
 obtain ⟨sc0w2, sc1w2, sfw2, szw2, szw21, snw21, szw22, snw22, szw23, snw23, szw24, snw24⟩ : Zc2 w2 (w1.heap.size + 1) pa2 0 := zq162
 go_upto_region 7 with fail
 go_region_with (go_at_call 271; refine (x_write_0 mb pa2 _ _).mono ?_; rintro o w3 ⟨rfl, hk3⟩)
 all_goals
  have hx3 := hx2.drew.kept hk3
  obtain ⟨rc0w3, rc1w3, rfw3, rzw3, rzw31, rnw31, rzw32, rnw32, rzw33, rnw33, rzw34, rnw34⟩ : Zc2 w3 (w.heap.size + 1) 0 0 := zq164
  go_wp2_with (first | (go_at_call 198; refine (x_fine _).mono ?_; rintro o wn ⟨rfl, rfl⟩))
  refine bodyPost_ret (v := .agg #[.int .i64 (-1), .int .i64 0]) zq518 rfl ⟨rfl, hx3.box (w.heap.size + 1) ?_ (by omega) (by omega), ?_⟩
  . exact zq273
  . exact zq278
theorem x_store_y2 (mb rb X) (hX : XOk X) (i : NI) (hi : NIOk i) (hf : (reachD X.b (xC X) (vaD X i) (nD i.op) 2).1.fault = 0) (h2 : 0 < (reachD X.b (xC X) (vaD X i) (nD i.op) 2).1.n2) (w) (hw : Hid (XAt w mb rb X)) :
 CX 200 #[.pointer (some ⟨mb, 0, none⟩), niV i] (excA (stX X i).1.1 (stX X i).1.2) [mb, rb] mb rb ((stX X i).2) w := by
 have hlt := hw.out.lt
 have hrlt := hw.out.rlt
 have hlt' : ¬ mb = w.heap.size := by omega
 have i0 := hi.im0
 have i1 := hi.im1
 have ha := hX.xr i.rs1
 have A1 := hide1 (fun W h => x_register mb rb X i.rs1 hi.rs1 W h)
 have hwa : Hid (XAt ((w.alloc (niC i)).alloc (.cells #[.int .i64 0, .int .i64 0] 118)) mb rb X) := zq22
 have hva : vaD X i < 4294967296 := zq51
 have hnn := nD_le i.op
 have RE := hide1 (fun W h => x_reach mb rb X hX (vaD X i) (nD i.op) 2 hva hnn.1 hnn.2 (.inr (.inr rfl)) W h)
 have AS : Hid (∀ W, CS 268 #[.int .i64 i.op] (.int .i64 (nD i.op)) W) := zq52
 have WD : Hid (∀ W, CS 135 #[.int .i64 ((X.x.getD i.rs1 0 : Int) + i.im)] (.int .i64 (vaD X i)) W) := zq53
 have wr : IntKind.i64.wrap ((X.x.getD i.rs1 0 : Int) + i.im) = (X.x.getD i.rs1 0 : Int) + i.im := zq9
 have hok := reach_ok hX.b (xC X) (vaD X i) (nD i.op) 2
 have hsp := reach_sp X.b (xC X) (vaD X i) (nD i.op) 2 hva hnn.1
 have htk := reach_takes X.b (xC X) (vaD X i) (nD i.op) 2
 have hle := reach_len X.b (xC X) (vaD X i) (nD i.op) 2
 unfold stX stF
 obtain ⟨S, hS⟩ := zn1 (reachD X.b (xC X) (vaD X i) (nD i.op) 2)
 simp only [<- hS] at RE hok hsp htk hle hf h2 |-
 obtain ⟨va, hvv⟩ := zn1 (vaD X i)
 obtain ⟨n, hnv⟩ := zn1 (nD i.op)
 obtain ⟨a, hae⟩ := zn1 (X.x.getD i.rs1 0)
 simp only [<- hvv] at RE WD
 simp only [<- hnv] at RE AS hsp hnn
 simp only [<- hae] at A1 WD wr ha
 clear hS hvv hae
 obtain ⟨⟨pa1, n1, pa2, n2, ft, wh⟩, B⟩ := S
 have hXB := XS.okB hX hok
 rw [<- hle] at htk
 dsimp only at RE hok hsp htk hle hf h2 hXB |-
 rw [if_pos hf]
 subst hf
 have htk := htk rfl
 have hb := hX.xr i.rs2
 have sp1 := hsp.n1 rfl
 have sps := hsp.sum rfl
 have spp1 := hsp.pa1
 have spp2 := hsp.pa2
 dsimp only at sp1 sps spp1 spp2
 unfold niC at hwa
 unfold niV
 rw [show spV ⟨pa1, n1, pa2, n2, 0, wh⟩ 2 = .tuple #[.agg #[.int .i64 pa1, .int .i64 n1], .agg #[.int .i64 pa2, .int .i64 n2], .agg #[.int .i64 (-1), .int .i64 0]] from rfl] at RE
 have AR := hide1 (fun W h => x_register mb rb (X.withB B) i.rs2 hi.rs2 W h)
 have eX : (X.withB B).x = X.x := rfl
 rw [eX] at AR
 obtain ⟨v, hve⟩ := zn1 (X.x.getD i.rs2 0)
 simp only [<- hve] at AR hb |-
 have R1 := hide1 (fun W h => x_write mb rb (X.withB B) hok pa1 n1 v spp1 sp1 (by omega) hb htk.1 W h)
 have r1ok := writeD_ok hok pa1 n1 v hb
 have r1len := writeD_len B pa1 n1 v
 have eB : (X.withB B).b = B := rfl
 rw [eB] at R1
 have hvl : v / 256 ^ n1 < 4294967296 := Nat.lt_of_le_of_lt (Nat.div_le_self _ _) hb
 have R2 := hide1 (fun W h => x_write mb rb (X.withB (writeD B pa1 n1 v)) r1ok pa2 n2 (v / 256 ^ n1) spp2 (by omega) (by omega) hvl (by rw [show (X.withB (writeD B pa1 n1 v)).b = writeD B pa1 n1 v from rfl, r1len]; exact htk.2 h2) W h)
 rw [show (X.withB (writeD B pa1 n1 v)).b = writeD B pa1 n1 v from rfl] at R2
 unfold storeD
 dsimp only
 rw [if_pos h2]
 obtain ⟨B1, hT1⟩ := zn1 (writeD B pa1 n1 v)
 simp only [<- hT1] at R1 r1ok R2 |-
 clear hT1
 have hBB : (X.withB B).withB B1 = X.withB B1 := rfl
 rw [hBB] at R1
 obtain ⟨s, hse⟩ := zn1 (8 * n1)
 have hs64 : s <= 32 := by omega
 have e8 : (8 : Int) * (n1 : Int) = (s : Int) := by omega
 have we8 : IntKind.i64.wrap (s : Int) = (s : Int) := zq9
 have epow : (2 : Int) ^ s = ((256 ^ n1 : Nat) : Int) := by
  have e1 : (2 : Nat) ^ (8 * n1) = 256 ^ n1 := by rw [Nat.pow_mul]
  rw [hse, <- e1]; simp
 obtain ⟨z, hz⟩ := zn1 (v / 256 ^ n1)
 have sh : (v : Int) / 2 ^ s = (z : Int) := by rw [epow, hz]; simp
 simp only [<- hz] at R2 hvl |-
 obtain ⟨B2, hB2⟩ := zn1 (writeD B1 pa2 n2 z)
 simp only [<- hB2] at R2 |-
 have hBB2 : (X.withB B1).withB B2 = X.withB B2 := rfl
 rw [hBB2] at R2
 obtain ⟨op, rd, rs1, rs2, im, ln⟩ := i
 dsimp only at *
 unfold excA
 clear hw hX hi htk hsp hle hok hXB hnv hnn hva hse hz epow r1ok r1len hve sps hb h2 hvl hB2
 go_enter func200, ntmps200
 go_upto_region 1 with fail
 go_quiet ((first | (go_at_call 39; first | exact Calls.quiet_of_same (A1.out _ hwa) | exact Calls.quiet_of_same (A1.out _ (hide1 (hwa.out.drewN _))) | exact Calls.quiet_of_same (A1.out _ (hide1 hwa.out.drew))) | (go_at_call 135; exact Calls.quiet_of_same (WD.out _))))
 go_wp2_with (go_at_call 268; refine (AS.out _).mono ?_; rintro o w2 ⟨rfl, rfl⟩)
 refine (RE.out _ (hide1 (hwa.out.drewN _))).mono ?_
 rintro o w1 ⟨rfl, hx1, hk1⟩
 obtain ⟨ic0w1, ic1w1, ic2w1, ic3w1, ic4w1, ic5w1, ifw1, izw1, izw11, inw11, izw12, inw12, izw13, inw13, izw14, inw14⟩ : Zc6 w1 w.heap.size op rd rs1 rs2 im ln := zq157
 obtain ⟨rc0w1, rc1w1, rfw1, rzw1, rzw11, rnw11, rzw12, rnw12, rzw13, rnw13, rzw14, rnw14⟩ : Zc2 w1 (w.heap.size + 1) 0 0 := zq158
 have hx1a := hide1 ((((hx1.alloc (.cells #[.int .i64 pa1, .int .i64 n1] 231)).alloc (.cells #[.int .i64 pa2, .int .i64 n2] 231)).alloc (.cells #[.int .i64 (-1), .int .i64 0] 118)).alloc (.cells #[.int .i64 (-1), .int .i64 0] 118))
 go_wp2_with (first | (go_at_call 82; refine (x_none _ _ _).mono ?_; rintro o wn ⟨rfl, rfl⟩) | (go_at_call 39; refine (AR.out _ hx1a).mono ?_; rintro o w5 ⟨rfl, rfl⟩))
 refine (R1.out _ hx1a).mono ?_
 rintro o w2 ⟨rfl, hx2, hk2⟩
 obtain ⟨rc0w2, rc1w2, rfw2, rzw2, rzw21, rnw21, rzw22, rnw22, rzw23, rnw23, rzw24, rnw24⟩ : Zc2 w2 (w.heap.size + 1) 0 0 := zq160
 obtain ⟨fc0w2, fc1w2, ffw2, fzw2, fzw21, fnw21, fzw22, fnw22, fzw23, fnw23, fzw24, fnw24⟩ : Zc2 w2 w1.heap.size pa1 n1 := zq161
 obtain ⟨sc0w2, sc1w2, sfw2, szw2, szw21, snw21, szw22, snw22, szw23, snw23, szw24, snw24⟩ : Zc2 w2 (w1.heap.size + 1) pa2 n2 := zq162
 go_upto_region 7 with fail
 go_region_with (go_at_call 271; refine (R2.out _ (hide1 hx2.drew)).mono ?_; rintro o w3 ⟨rfl, hx3, hk3⟩)
 all_goals
  obtain ⟨rc0w3, rc1w3, rfw3, rzw3, rzw31, rnw31, rzw32, rnw32, rzw33, rnw33, rzw34, rnw34⟩ : Zc2 w3 (w.heap.size + 1) 0 0 := zq164
  go_wp2_with (first | (go_at_call 198; refine (x_fine _).mono ?_; rintro o wn ⟨rfl, rfl⟩))
  refine bodyPost_ret (v := .agg #[.int .i64 (-1), .int .i64 0]) zq518 rfl ⟨rfl, hx3.box (w.heap.size + 1) ?_ (by omega) (by omega), ?_⟩
  . exact zq273
  . exact zq278
theorem x_store (mb rb X) (hX : XOk X) (i : NI) (hi : NIOk i) (w) (hw : Hid (XAt w mb rb X)) :
 CX 200 #[.pointer (some ⟨mb, 0, none⟩), niV i] (excA (stX X i).1.1 (stX X i).1.2) [mb, rb] mb rb ((stX X i).2) w := by
 by_cases hf : (reachD X.b (xC X) (vaD X i) (nD i.op) 2).1.fault = 0
 . by_cases h2 : (reachD X.b (xC X) (vaD X i) (nD i.op) 2).1.n2 = 0
   . exact x_store_y1 mb rb X hX i hi hf h2 w hw
   . exact x_store_y2 mb rb X hX i hi hf (Nat.pos_of_ne_zero h2) w hw
 . exact x_store_f mb rb X hX i hi hf w hw
def lrX (X : XS) (i : NI) (pa p : Nat) : XS := { setXR X i.rd (rdRam X.b p 4) with resd := true, resv := pa }
def scB (X : XS) (pa : Nat) : Bool := !X.resd || !decide (X.resv = pa)
def scX (X : XS) (i : NI) (pa p : Nat) : XS := unresX (setXR (bif scB X pa then X else setRam X (stN X.b.ram p 4 (X.x.getD i.rs2 0))) i.rd (scB X pa).toNat)
def amoX (X : XS) (i : NI) (p : Nat) : XS := setXR (setRam X (stN X.b.ram p 4 (alu i.op (rdRam X.b p 4) (X.x.getD i.rs2 0)))) i.rd (rdRam X.b p 4)
theorem rd4_lt (B : BusS) (p : Nat) : rdRam B p 4 < 4294967296 := rdRam_lt B p 4
theorem alu_lt (op : Int) (a b : Nat) (ha : a < 4294967296) (hb : b < 4294967296) (h0 : 52 <= op) (h1 : op <= 60) : alu op a b < 4294967296 := by
 have h : op = 52 \/ op = 53 \/ op = 54 \/ op = 55 \/ op = 56 \/ op = 57 \/ op = 58 \/ op = 59 \/ op = 60 := by omega
 rcases h with rfl | rfl | rfl | rfl | rfl | rfl | rfl | rfl | rfl
 . exact hb
 . show (a + b) % 4294967296 < _; omega
 . exact Nat.xor_lt_two_pow (n := 32) ha hb
 . exact Nat.lt_of_le_of_lt Nat.and_le_left ha
 . exact nat_or_lt a b 32 ha hb
 . show (if sgn a < sgn b then a else b) < _; split <;> assumption
 . show (if sgn b < sgn a then a else b) < _; split <;> assumption
 . show (if a < b then a else b) < _; split <;> assumption
 . show (if b < a then a else b) < _; split <;> assumption
theorem x_loadReserved (mb rb X) (hX : XOk X) (i : NI) (hi : NIOk i) (pa p : Nat) (hp : pa = 2147483648 + p) (hl : p + 4 <= X.b.ram.length) (w) (hw : Hid (XAt w mb rb X)) :
 CX 275 #[.pointer (some ⟨mb, 0, none⟩), niV i, .int .i64 pa] (.tuple #[]) [mb, rb] mb rb (lrX X i pa p) w := by
 have hlt := hw.out.lt
 have hrlt := hw.out.rlt
 have hlt' : ¬ mb = w.heap.size := by omega
 have hram := hX.b.ram
 have hwa : Hid (XAt (w.alloc (niC i)) mb rb X) := zq10
 unfold niC at hwa
 have RN : Hid (∀ W, Hid (XAt W mb rb X) -> CS 262 #[.pointer (some ⟨mb, 0, none⟩), .int .i64 pa, .int .i64 4] (.int .i64 (rdRam X.b p 4)) W) := zq74
 have SR := hide1 (fun W h => x_setRegister mb rb X hX.x i.rd (rdRam X.b p 4) hi.rd W h)
 have RV := hide1 (fun W h => x_reserve mb rb (setXR X i.rd (rdRam X.b p 4)) pa W h)
 unfold lrX
 obtain ⟨v, hv⟩ := zn1 (rdRam X.b p 4)
 simp only [<- hv] at RN SR RV |-
 unfold niV
 obtain ⟨op, rd, rs1, rs2, im, ln⟩ := i
 dsimp only at *
 clear hw hX hi hv hp hl hram
 go_enter func275, ntmps275
 go_wp2_with fail
 refine (RN.out _ hwa).mono ?_
 rintro o w1 ⟨rfl, rfl⟩
 go_wp2_with fail
 refine (SR.out _ hwa).mono ?_
 rintro o w1 ⟨rfl, hx1, hk1⟩
 go_wp2_with fail
 refine (RV.out _ (hide1 hx1)).mono ?_
 exact zq279
theorem x_modify (mb rb X) (hX : XOk X) (i : NI) (hi : NIOk i) (pa p : Nat) (hp : pa = 2147483648 + p) (hl : p + 4 <= X.b.ram.length) (hop : 52 <= i.op /\ i.op <= 60) (w) (hw : Hid (XAt w mb rb X)) :
 CX 277 #[.pointer (some ⟨mb, 0, none⟩), niV i, .int .i64 pa] (.tuple #[]) [mb, rb] mb rb (amoX X i p) w := by
 have hlt := hw.out.lt
 have hrlt := hw.out.rlt
 have hlt' : ¬ mb = w.heap.size := by omega
 have hram := hX.b.ram
 have hwa : Hid (XAt (w.alloc (niC i)) mb rb X) := zq10
 unfold niC at hwa
 have hb := hX.xr i.rs2
 have hv4 := rd4_lt X.b p
 have hal := alu_lt i.op _ _ hv4 hb hop.1 hop.2
 have RN : Hid (∀ W, Hid (XAt W mb rb X) -> CS 262 #[.pointer (some ⟨mb, 0, none⟩), .int .i64 pa, .int .i64 4] (.int .i64 (rdRam X.b p 4)) W) := zq74
 have A2 := hide1 (fun W h => x_register mb rb X i.rs2 hi.rs2 W h)
 have MD := hide1 (x_modified i.op hop.1 hop.2 _ _ hv4 hb)
 have SN : Hid (∀ W, Hid (XAt W mb rb X) -> CX 346 #[.pointer (some ⟨mb, 0, none⟩), .int .i64 pa, .int .i64 4, .int .i64 (alu i.op (rdRam X.b p 4) (X.x.getD i.rs2 0))] (.tuple #[]) [rb] mb rb (setRam X (stN X.b.ram p 4 (alu i.op (rdRam X.b p 4) (X.x.getD i.rs2 0)))) W) := hide1 (fun W h => x_setRamNumber_yes mb rb X hram pa p 4 (by omega) (by omega) (by omega) hl _ hal W h)
 have SR := hide1 (fun W h => x_setRegister mb rb (setRam X (stN X.b.ram p 4 (alu i.op (rdRam X.b p 4) (X.x.getD i.rs2 0)))) hX.x i.rd (rdRam X.b p 4) hi.rd W h)
 unfold amoX
 obtain ⟨v, hv⟩ := zn1 (rdRam X.b p 4)
 obtain ⟨b, hbe⟩ := zn1 (X.x.getD i.rs2 0)
 simp only [<- hv, <- hbe] at RN A2 MD SN SR |-
 obtain ⟨r, hr⟩ := zn1 (alu i.op v b)
 simp only [<- hr] at MD SN SR |-
 obtain ⟨Y, hY⟩ := zn1 (setRam X (stN X.b.ram p 4 r))
 simp only [<- hY] at SN SR |-
 unfold niV
 obtain ⟨op, rd, rs1, rs2, im, ln⟩ := i
 dsimp only at *
 clear hw hX hi hv hp hl hram hr hY hbe hb hv4 hal hop
 go_enter func277, ntmps277
 go_wp2_with (first | (go_at_call 262; refine (RN.out _ hwa).mono ?_; rintro o w1 ⟨rfl, rfl⟩) | (go_at_call 39; refine (A2.out _ hwa).mono ?_; rintro o w1 ⟨rfl, rfl⟩) | (go_at_call 349; refine (MD.out _).mono ?_; rintro o w1 ⟨rfl, rfl⟩))
 refine (SN.out _ hwa).mono ?_
 rintro o w1 ⟨rfl, hx1, hk1⟩
 obtain ⟨ic0w1, ic1w1, ic2w1, ic3w1, ic4w1, ic5w1, ifw1, izw1, izw11, inw11, izw12, inw12, izw13, inw13, izw14, inw14⟩ : Zc6 w1 w.heap.size op rd rs1 rs2 im ln := zq166
 go_wp2_with fail
 refine (SR.out _ (hide1 hx1)).mono ?_
 exact zq279
theorem x_sc_n (mb rb X) (hX : XOk X) (i : NI) (hi : NIOk i) (pa p : Nat) (hp : pa = 2147483648 + p) (hl : p + 4 <= X.b.ram.length) (hsc : scB X pa = true) (w) (hw : Hid (XAt w mb rb X)) :
 CX 276 #[.pointer (some ⟨mb, 0, none⟩), niV i, .int .i64 pa] (.tuple #[]) [mb, rb] mb rb (scX X i pa p) w := by
 have hlt := hw.out.lt
 have hrlt := hw.out.rlt
 have hlt' : ¬ mb = w.heap.size := by omega
 have hram := hX.b.ram
 have hwa : Hid (XAt (w.alloc (niC i)) mb rb X) := zq10
 unfold niC at hwa
 have hb := hX.xr i.rs2
 have c36 := hw.out.c36
 have c37 := hw.out.c37
 have A2 := hide1 (fun W h => x_register mb rb X i.rs2 hi.rs2 W h)
 have SN : Hid (∀ W, Hid (XAt W mb rb X) -> CX 346 #[.pointer (some ⟨mb, 0, none⟩), .int .i64 pa, .int .i64 4, .int .i64 (X.x.getD i.rs2 0)] (.tuple #[]) [rb] mb rb (setRam X (stN X.b.ram p 4 (X.x.getD i.rs2 0))) W) := zq77
 unfold scX
 rw [hsc]
 obtain ⟨Y, hY⟩ := zn1 ((bif true then X else setRam X (stN X.b.ram p 4 (X.x.getD i.rs2 0))))
 have hYx : Y.x.length = 32 := by rw [hY]; exact hX.x
 rw [<- hY]
 rw [show (setRam X (stN X.b.ram p 4 (X.x.getD i.rs2 0))) = setRam X (stN X.b.ram p 4 (X.x.getD i.rs2 0)) from rfl] at SN
 have SR : Hid (∀ W, Hid (XAt W mb rb Y) -> CX 197 #[.pointer (some ⟨mb, 0, none⟩), .int .i64 i.rd, .int .i64 ((true : Bool).toNat : Nat)] (.tuple #[]) [mb] mb rb (setXR Y i.rd (true : Bool).toNat) W) := hide1 (fun W h => x_setRegister mb rb Y hYx i.rd (true : Bool).toNat hi.rd W h)
 have UR := hide1 (fun W h => x_unreserve mb rb (setXR Y i.rd (true : Bool).toNat) W h)
 have OI : Hid (∀ W, CS 255 #[.bool true] (.int .i64 ((true : Bool).toNat : Nat)) W) := hide1 (fun W => x_oneIf true W)
 obtain ⟨b, hbe⟩ := zn1 (X.x.getD i.rs2 0)
 simp only [<- hbe] at A2 SN
 obtain ⟨fv, hfv⟩ := zn1 ((true : Bool).toNat)
 simp only [<- hfv] at SR UR OI |-
 unfold niV
 obtain ⟨op, rd, rs1, rs2, im, ln⟩ := i
 dsimp only at *
 have qs : (!X.resd || ((X.resv : Int) != pa)) = true := zq78
 obtain ⟨rs, hrs⟩ := zn1 (X.resd)
 obtain ⟨rv, hrv⟩ := zn1 (X.resv)
 rw [<- hrs] at c36 qs
 rw [<- hrv] at c37 qs
 have hYe : Y = X := hY
 subst hYe
 clear hY
 clear hw hX hi hp hl hram hbe hb hsc hYx hfv hrs hrv
 cases rs
 case false =>
  exact zq280
 case true =>
  have q : ((rv : Int) != pa) = true := by simpa using qs
  exact zq280
theorem x_sc_y (mb rb X) (hX : XOk X) (i : NI) (hi : NIOk i) (pa p : Nat) (hp : pa = 2147483648 + p) (hl : p + 4 <= X.b.ram.length) (hsc : scB X pa = false) (w) (hw : Hid (XAt w mb rb X)) :
 CX 276 #[.pointer (some ⟨mb, 0, none⟩), niV i, .int .i64 pa] (.tuple #[]) [mb, rb] mb rb (scX X i pa p) w := by
 have hlt := hw.out.lt
 have hrlt := hw.out.rlt
 have hlt' : ¬ mb = w.heap.size := by omega
 have hram := hX.b.ram
 have hwa : Hid (XAt (w.alloc (niC i)) mb rb X) := zq10
 unfold niC at hwa
 have hb := hX.xr i.rs2
 have c36 := hw.out.c36
 have c37 := hw.out.c37
 have A2 := hide1 (fun W h => x_register mb rb X i.rs2 hi.rs2 W h)
 have SN : Hid (∀ W, Hid (XAt W mb rb X) -> CX 346 #[.pointer (some ⟨mb, 0, none⟩), .int .i64 pa, .int .i64 4, .int .i64 (X.x.getD i.rs2 0)] (.tuple #[]) [rb] mb rb (setRam X (stN X.b.ram p 4 (X.x.getD i.rs2 0))) W) := zq77
 unfold scX
 rw [hsc]
 obtain ⟨Y, hY⟩ := zn1 ((bif false then X else setRam X (stN X.b.ram p 4 (X.x.getD i.rs2 0))))
 have hYx : Y.x.length = 32 := by rw [hY]; exact hX.x
 rw [<- hY]
 rw [show (setRam X (stN X.b.ram p 4 (X.x.getD i.rs2 0))) = (bif false then X else setRam X (stN X.b.ram p 4 (X.x.getD i.rs2 0))) from rfl] at SN
 have SR : Hid (∀ W, Hid (XAt W mb rb Y) -> CX 197 #[.pointer (some ⟨mb, 0, none⟩), .int .i64 i.rd, .int .i64 ((false : Bool).toNat : Nat)] (.tuple #[]) [mb] mb rb (setXR Y i.rd (false : Bool).toNat) W) := hide1 (fun W h => x_setRegister mb rb Y hYx i.rd (false : Bool).toNat hi.rd W h)
 have UR := hide1 (fun W h => x_unreserve mb rb (setXR Y i.rd (false : Bool).toNat) W h)
 have OI : Hid (∀ W, CS 255 #[.bool false] (.int .i64 ((false : Bool).toNat : Nat)) W) := hide1 (fun W => x_oneIf false W)
 obtain ⟨b, hbe⟩ := zn1 (X.x.getD i.rs2 0)
 simp only [<- hbe] at A2 SN
 obtain ⟨fv, hfv⟩ := zn1 ((false : Bool).toNat)
 simp only [<- hfv] at SR UR OI |-
 unfold niV
 obtain ⟨op, rd, rs1, rs2, im, ln⟩ := i
 dsimp only at *
 have qs : (!X.resd || ((X.resv : Int) != pa)) = false := zq78
 obtain ⟨rs, hrs⟩ := zn1 (X.resd)
 obtain ⟨rv, hrv⟩ := zn1 (X.resv)
 rw [<- hrs] at c36 qs
 rw [<- hrv] at c37 qs
 have hYe : (bif false then X else setRam X (stN X.b.ram p 4 b)) = Y := by rw [hY, hbe]
 simp only [hYe] at SN
 clear hY hYe
 clear hw hX hi hp hl hram hbe hb hsc hYx hfv hrs hrv
 cases rs
 case false =>
  simp at qs
 case true =>
  have q : ((rv : Int) != pa) = false := by simpa using qs
  clear qs
  go_enter func276, ntmps276
  go_wp2_with (go_at_call 39; refine (A2.out _ hwa).mono ?_; rintro o w1 ⟨rfl, rfl⟩)
  refine (SN.out _ hwa).mono ?_
  rintro o w1 ⟨rfl, hx1, hk1⟩
  obtain ⟨ic0w1, ic1w1, ic2w1, ic3w1, ic4w1, ic5w1, ifw1, izw1, izw11, inw11, izw12, inw12, izw13, inw13, izw14, inw14⟩ : Zc6 w1 w.heap.size op rd rs1 rs2 im ln := zq166
  go_upto_region 5 with fail
  go_region_with (first | (go_at_call 255; refine (OI.out _).mono ?_; rintro o w2 ⟨rfl, rfl⟩) | (go_at_call 197; refine (SR.out _ (hide1 hx1.drew)).mono ?_; rintro o w2 ⟨rfl, hx2, hk2⟩))
  all_goals
   go_wp2_with fail
   refine (UR.out _ (hide1 hx2)).mono ?_
   rintro o w3 ⟨rfl, hx3, hk3⟩
   go_wp2_with fail
   go_end0
   refine ⟨rfl, hx3, ?_⟩
   repeat (first | (with_reducible exact Kept.refl _ _) | (with_reducible refine Kept.setM ?_ _ _) | (with_reducible refine Kept.setCell ?_ (Or.inr zq492) _) | (with_reducible refine Kept.drew ?_) | (with_reducible refine Kept.drewN ?_ _) | (with_reducible refine Kept.alloc ?_ _) | (with_reducible refine Kept.trans ?_ (hk3.mono (by simp))) | (with_reducible refine Kept.trans ?_ (hk2.mono (by simp))) | (with_reducible refine Kept.trans ?_ (hk1.mono (by simp))))
def kD (op : Int) : Nat := if op = 50 then 1 else 2
def atG (X : XS) (i : NI) (pa : Nat) : XS := if i.op = 50 then lrX X i pa (pa - 2147483648) else if i.op = 51 then scX X i pa (pa - 2147483648) else amoX X i (pa - 2147483648)
def atF (X : XS) (i : NI) (t : (Nat × Nat) × BusS) : (Int × Nat) × XS :=
 if t.1.2 = 0 then ((-1, 0), atG (X.withB t.2) i t.1.1) else ((xfauD t.1.2 (kD i.op), X.x.getD i.rs1 0), X.withB t.2)
def atX (X : XS) (i : NI) : (Int × Nat) × XS :=
 if X.x.getD i.rs1 0 % 4 = 0 then atF X i (wordAtD X.b (xC X) (X.x.getD i.rs1 0) (kD i.op)) else ((xalgD (kD i.op), X.x.getD i.rs1 0), X)
theorem kD_apu (op : Int) : ((kD op : Nat) : Int) = xapuD op := by unfold kD xapuD; split <;> rfl
theorem kD_ok (op : Int) : kD op = 0 \/ kD op = 1 \/ kD op = 2 := by unfold kD; split <;> omega
theorem x_atomic_a (mb rb X) (hX : XOk X) (i : NI) (hi : NIOk i) (h4 : ¬ X.x.getD i.rs1 0 % 4 = 0) (w) (hw : Hid (XAt w mb rb X)) :
 CX 201 #[.pointer (some ⟨mb, 0, none⟩), niV i] (excA (atX X i).1.1 (atX X i).1.2) [mb, rb] mb rb ((atX X i).2) w := by
 have hlt := hw.out.lt
 have hrlt := hw.out.rlt
 have hlt' : ¬ mb = w.heap.size := by omega
 have ha := hX.xr i.rs1
 have A1 := hide1 (fun W h => x_register mb rb X i.rs1 hi.rs1 W h)
 have hwa : Hid (XAt ((w.alloc (niC i)).alloc (.cells #[.int .i64 0, .int .i64 0] 118)) mb rb X) := zq22
 have AP : Hid (∀ W, CS 272 #[.int .i64 i.op] (.int .i64 (kD i.op)) W) := zq79
 have hkk := kD_ok i.op
 unfold niC at hwa
 unfold atX
 rw [if_neg h4]
 have AL := hide1 (x_alignFault (kD i.op))
 obtain ⟨a, hae⟩ := zn1 (X.x.getD i.rs1 0)
 obtain ⟨k, hke⟩ := zn1 (kD i.op)
 simp only [<- hae] at A1 ha h4 |-
 simp only [<- hke] at AP AL |-
 have q : ((a : Int) % 4 != 0) = true := by simp; omega
 unfold niV excA
 obtain ⟨op, rd, rs1, rs2, im, ln⟩ := i
 dsimp only at *
 clear hX hi hae hke h4 hkk
 go_enter func201, ntmps201
 go_wp2_with (first | (go_at_call 39; refine (A1.out _ hwa).mono ?_; rintro o w5 ⟨rfl, rfl⟩) | (go_at_call 272; refine (AP.out _).mono ?_; rintro o w5 ⟨rfl, rfl⟩) | (go_at_call 273; refine (AL.out _).mono ?_; rintro o w5 ⟨rfl, rfl⟩))
 refine bodyPost_ret (v := .agg #[.int .i64 (xalgD k), .int .i64 a]) (by simp [results, results201, go_sem]) rfl ⟨rfl, (hw.out.alloc _).alloc _, ((Kept.refl _ _).alloc _).alloc _⟩
theorem x_atomic_f (mb rb X) (hX : XOk X) (i : NI) (hi : NIOk i) (h4 : X.x.getD i.rs1 0 % 4 = 0) (hf : ¬ (trD X.b (xC X) (X.x.getD i.rs1 0) (kD i.op)).1.2 = 0) (w) (hw : Hid (XAt w mb rb X)) :
 CX 201 #[.pointer (some ⟨mb, 0, none⟩), niV i] (excA (atX X i).1.1 (atX X i).1.2) [mb, rb] mb rb ((atX X i).2) w := by
 have hlt := hw.out.lt
 have hrlt := hw.out.rlt
 have hlt' : ¬ mb = w.heap.size := by omega
 have ha := hX.xr i.rs1
 have A1 := hide1 (fun W h => x_register mb rb X i.rs1 hi.rs1 W h)
 have hwa : Hid (XAt ((w.alloc (niC i)).alloc (.cells #[.int .i64 0, .int .i64 0] 118)) mb rb X) := zq22
 have AP : Hid (∀ W, CS 272 #[.int .i64 i.op] (.int .i64 (kD i.op)) W) := zq79
 have hkk := kD_ok i.op
 unfold niC at hwa
 unfold atX
 rw [if_pos h4]
 have TR := hide1 (fun W h => x_translate mb rb X hX (X.x.getD i.rs1 0) (kD i.op) ha hkk W h)
 have hok := tr_ok hX.b (xC X) (X.x.getD i.rs1 0) (kD i.op)
 have hpal := (tr_lt X.b (xC X) (X.x.getD i.rs1 0) (kD i.op) ha).1
 unfold wordAtD
 obtain ⟨T, hT⟩ := zn1 (trD X.b (xC X) (X.x.getD i.rs1 0) (kD i.op))
 simp only [<- hT] at TR hok hpal hf |-
 clear hT
 obtain ⟨⟨pa, f⟩, B⟩ := T
 have hXB := XS.okB hX hok
 have hram := hok.ram
 dsimp only at TR hok hpal hram hXB hf |-
 unfold wordAtP
 dsimp only
 obtain ⟨a, hae⟩ := zn1 (X.x.getD i.rs1 0)
 simp only [<- hae] at A1 ha h4 TR |-
 have q : ((a : Int) % 4 != 0) = false := by simp; omega
 rw [if_neg hf]
 unfold atF
 dsimp only
 rw [if_neg hf, <- hae]
 simp only [trV_no ((pa, f), B) a (kD i.op) hf] at TR
 try dsimp only at TR
 have hn := xfau_ne f (kD i.op)
 obtain ⟨c, hc⟩ := zn1 (xfauD f (kD i.op))
 simp only [<- hc] at TR hn |-
 obtain ⟨k, hke⟩ := zn1 (kD i.op)
 simp only [<- hke] at AP TR |-
 unfold niV excA
 obtain ⟨op, rd, rs1, rs2, im, ln⟩ := i
 dsimp only at *
 clear hX hi hae hke h4 hkk hf hc hXB hok hram hw
 go_enter func201, ntmps201
 go_wp2_with (first | (go_at_call 39; refine (A1.out _ hwa).mono ?_; rintro o w5 ⟨rfl, rfl⟩) | (go_at_call 272; refine (AP.out _).mono ?_; rintro o w5 ⟨rfl, rfl⟩))
 refine (TR.out _ hwa).mono ?_
 rintro o w1 ⟨rfl, hx1, hk1⟩
 obtain ⟨rc0w1, rc1w1, rfw1, rzw1, rzw11, rnw11, rzw12, rnw12, rzw13, rnw13, rzw14, rnw14⟩ : Zc2 w1 (w.heap.size + 1) 0 0 := zq167
 go_wp2_with (first | (go_at_call 82; refine (x_none _ _ _).mono ?_; rintro o wn ⟨rfl, rfl⟩))
 exact zq281
theorem x_atomic_n (mb rb X) (hX : XOk X) (i : NI) (hi : NIOk i) (h4 : X.x.getD i.rs1 0 % 4 = 0) (hf : (trD X.b (xC X) (X.x.getD i.rs1 0) (kD i.op)).1.2 = 0) (hh : holdsD ((trD X.b (xC X) (X.x.getD i.rs1 0) (kD i.op)).1.1 : Nat) 4 (trD X.b (xC X) (X.x.getD i.rs1 0) (kD i.op)).2.ram.length = false) (w) (hw : Hid (XAt w mb rb X)) :
 CX 201 #[.pointer (some ⟨mb, 0, none⟩), niV i] (excA (atX X i).1.1 (atX X i).1.2) [mb, rb] mb rb ((atX X i).2) w := by
 have hlt := hw.out.lt
 have hrlt := hw.out.rlt
 have hlt' : ¬ mb = w.heap.size := by omega
 have ha := hX.xr i.rs1
 have A1 := hide1 (fun W h => x_register mb rb X i.rs1 hi.rs1 W h)
 have hwa : Hid (XAt ((w.alloc (niC i)).alloc (.cells #[.int .i64 0, .int .i64 0] 118)) mb rb X) := zq22
 have AP : Hid (∀ W, CS 272 #[.int .i64 i.op] (.int .i64 (kD i.op)) W) := zq79
 have hkk := kD_ok i.op
 unfold niC at hwa
 unfold atX
 rw [if_pos h4]
 have TR := hide1 (fun W h => x_translate mb rb X hX (X.x.getD i.rs1 0) (kD i.op) ha hkk W h)
 have hok := tr_ok hX.b (xC X) (X.x.getD i.rs1 0) (kD i.op)
 have hpal := (tr_lt X.b (xC X) (X.x.getD i.rs1 0) (kD i.op) ha).1
 unfold wordAtD
 obtain ⟨T, hT⟩ := zn1 (trD X.b (xC X) (X.x.getD i.rs1 0) (kD i.op))
 simp only [<- hT] at TR hok hpal hf hh |-
 clear hT
 obtain ⟨⟨pa, f⟩, B⟩ := T
 have hXB := XS.okB hX hok
 have hram := hok.ram
 dsimp only at TR hok hpal hram hXB hf hh |-
 unfold wordAtP
 dsimp only
 obtain ⟨a, hae⟩ := zn1 (X.x.getD i.rs1 0)
 simp only [<- hae] at A1 ha h4 TR |-
 have q : ((a : Int) % 4 != 0) = false := by simp; omega
 rw [if_pos hf, if_neg (by rw [hh]; simp)]
 subst hf
 unfold atF
 dsimp only
 rw [if_neg (by simp), <- hae]
 simp only [trV_ok ((pa, 0), B) a (kD i.op) rfl] at TR
 try dsimp only at TR
 have IR : Hid (∀ W, Hid (XAt W mb rb (X.withB B)) -> CS 261 #[.pointer (some ⟨mb, 0, none⟩), .int .i64 pa, .int .i64 4] (.bool false) W) := zq80
 have FC : Hid (∀ W, CS 274 #[.int .i64 2, .int .i64 (kD i.op)] (.int .i64 (xfauD 2 (kD i.op))) W) := hide1 (fun W => x_faultCause 2 (kD i.op) W)
 have e2 : xfauD ((2 : Nat) : Int) (kD i.op) = xfauD 2 (kD i.op) := rfl
 rw [e2]
 obtain ⟨c, hc⟩ := zn1 (xfauD 2 (kD i.op))
 simp only [<- hc] at FC |-
 obtain ⟨k, hke⟩ := zn1 (kD i.op)
 simp only [<- hke] at AP TR FC |-
 unfold niV excA
 obtain ⟨op, rd, rs1, rs2, im, ln⟩ := i
 dsimp only at *
 clear hX hi hae hke h4 hkk hc hXB hok hram hw hh
 go_enter func201, ntmps201
 go_wp2_with (first | (go_at_call 39; refine (A1.out _ hwa).mono ?_; rintro o w5 ⟨rfl, rfl⟩) | (go_at_call 272; refine (AP.out _).mono ?_; rintro o w5 ⟨rfl, rfl⟩))
 refine (TR.out _ hwa).mono ?_
 rintro o w1 ⟨rfl, hx1, hk1⟩
 obtain ⟨rc0w1, rc1w1, rfw1, rzw1, rzw11, rnw11, rzw12, rnw12, rzw13, rnw13, rzw14, rnw14⟩ : Zc2 w1 (w.heap.size + 1) 0 0 := zq167
 have hx2 := hide1 ((hx1.alloc (.cells #[.int .i64 (-1), .int .i64 0] 118)).alloc (.cells #[.int .i64 (-1), .int .i64 0] 118))
 go_wp2_with (first | (go_at_call 82; refine (x_none _ _ _).mono ?_; rintro o wn ⟨rfl, rfl⟩) | (go_at_call 261; refine (IR.out _ hx2).mono ?_; rintro o w5 ⟨rfl, rfl⟩) | (go_at_call 274; refine (FC.out _).mono ?_; rintro o w5 ⟨rfl, rfl⟩))
 exact zq281
theorem x_atomic_lr (mb rb X) (hX : XOk X) (i : NI) (hi : NIOk i) (hop : i.op = 50) (h4 : X.x.getD i.rs1 0 % 4 = 0) (hf : (trD X.b (xC X) (X.x.getD i.rs1 0) (kD i.op)).1.2 = 0) (hh : holdsD ((trD X.b (xC X) (X.x.getD i.rs1 0) (kD i.op)).1.1 : Nat) 4 (trD X.b (xC X) (X.x.getD i.rs1 0) (kD i.op)).2.ram.length = true) (w) (hw : Hid (XAt w mb rb X)) :
 CX 201 #[.pointer (some ⟨mb, 0, none⟩), niV i] (excA (atX X i).1.1 (atX X i).1.2) [mb, rb] mb rb ((atX X i).2) w := by
 have hlt := hw.out.lt
 have hrlt := hw.out.rlt
 have hlt' : ¬ mb = w.heap.size := by omega
 have ha := hX.xr i.rs1
 have A1 := hide1 (fun W h => x_register mb rb X i.rs1 hi.rs1 W h)
 have hwa : Hid (XAt ((w.alloc (niC i)).alloc (.cells #[.int .i64 0, .int .i64 0] 118)) mb rb X) := zq22
 have AP : Hid (∀ W, CS 272 #[.int .i64 i.op] (.int .i64 (kD i.op)) W) := zq79
 have hkk := kD_ok i.op
 unfold niC at hwa
 unfold atX
 rw [if_pos h4]
 have TR := hide1 (fun W h => x_translate mb rb X hX (X.x.getD i.rs1 0) (kD i.op) ha hkk W h)
 have hok := tr_ok hX.b (xC X) (X.x.getD i.rs1 0) (kD i.op)
 have hpal := (tr_lt X.b (xC X) (X.x.getD i.rs1 0) (kD i.op) ha).1
 unfold wordAtD
 obtain ⟨T, hT⟩ := zn1 (trD X.b (xC X) (X.x.getD i.rs1 0) (kD i.op))
 simp only [<- hT] at TR hok hpal hf hh |-
 clear hT
 obtain ⟨⟨pa, f⟩, B⟩ := T
 have hXB := XS.okB hX hok
 have hram := hok.ram
 dsimp only at TR hok hpal hram hXB hf hh |-
 unfold wordAtP
 dsimp only
 obtain ⟨a, hae⟩ := zn1 (X.x.getD i.rs1 0)
 simp only [<- hae] at A1 ha h4 TR |-
 have q : ((a : Int) % 4 != 0) = false := by simp; omega
 rw [if_pos hf, if_pos hh]
 subst hf
 unfold atF
 dsimp only
 rw [if_pos rfl]
 obtain ⟨hr1, hr2⟩ := holdsD_at hh
 simp only [trV_ok ((pa, 0), B) a (kD i.op) rfl] at TR
 try dsimp only at TR
 have IR : Hid (∀ W, Hid (XAt W mb rb (X.withB B)) -> CS 261 #[.pointer (some ⟨mb, 0, none⟩), .int .i64 pa, .int .i64 4] (.bool true) W) := zq80
 obtain ⟨p, hpp⟩ := zn1 (pa - 2147483648)
 have hpe : pa = 2147483648 + p := by omega
 have hl : p + 4 <= (X.withB B).b.ram.length := by show p + 4 <= B.ram.length; omega
 have eG : atG (X.withB B) i pa = lrX (X.withB B) i pa p := by unfold atG; rw [<- hpp]; rw [if_pos hop]
 rw [eG]
 have DO := hide1 (fun W h => x_loadReserved mb rb (X.withB B) hXB i hi pa p hpe hl W h)
 obtain ⟨Y, hY⟩ := zn1 (lrX (X.withB B) i pa p)
 simp only [<- hY] at DO |-
 obtain ⟨k, hke⟩ := zn1 (kD i.op)
 simp only [<- hke] at AP TR
 unfold niV at DO
 unfold niV excA
 obtain ⟨op, rd, rs1, rs2, im, ln⟩ := i
 dsimp only at *
 subst hop
 clear hX hi hae hke h4 hkk hXB hok hram hw hh hpe hl eG hY hpp hr1 hr2
 go_enter func201, ntmps201
 go_wp2_with (first | (go_at_call 39; refine (A1.out _ hwa).mono ?_; rintro o w5 ⟨rfl, rfl⟩) | (go_at_call 272; refine (AP.out _).mono ?_; rintro o w5 ⟨rfl, rfl⟩))
 refine (TR.out _ hwa).mono ?_
 rintro o w1 ⟨rfl, hx1, hk1⟩
 obtain ⟨ic0w1, ic1w1, ic2w1, ic3w1, ic4w1, ic5w1, ifw1, izw1, izw11, inw11, izw12, inw12, izw13, inw13, izw14, inw14⟩ : Zc6 w1 w.heap.size 50 rd rs1 rs2 im ln := zq168
 exact zq282
theorem x_sc (mb rb X) (hX : XOk X) (i : NI) (hi : NIOk i) (pa p : Nat) (hp : pa = 2147483648 + p) (hl : p + 4 <= X.b.ram.length) (w) (hw : Hid (XAt w mb rb X)) :
 CX 276 #[.pointer (some ⟨mb, 0, none⟩), niV i, .int .i64 pa] (.tuple #[]) [mb, rb] mb rb (scX X i pa p) w := by
 cases h : scB X pa with
 | true => exact x_sc_n mb rb X hX i hi pa p hp hl h w hw
 | false => exact x_sc_y mb rb X hX i hi pa p hp hl h w hw
theorem x_atomic_sc (mb rb X) (hX : XOk X) (i : NI) (hi : NIOk i) (hop : i.op = 51) (h4 : X.x.getD i.rs1 0 % 4 = 0) (hf : (trD X.b (xC X) (X.x.getD i.rs1 0) (kD i.op)).1.2 = 0) (hh : holdsD ((trD X.b (xC X) (X.x.getD i.rs1 0) (kD i.op)).1.1 : Nat) 4 (trD X.b (xC X) (X.x.getD i.rs1 0) (kD i.op)).2.ram.length = true) (w) (hw : Hid (XAt w mb rb X)) :
 CX 201 #[.pointer (some ⟨mb, 0, none⟩), niV i] (excA (atX X i).1.1 (atX X i).1.2) [mb, rb] mb rb ((atX X i).2) w := by
 have hlt := hw.out.lt
 have hrlt := hw.out.rlt
 have hlt' : ¬ mb = w.heap.size := by omega
 have ha := hX.xr i.rs1
 have A1 := hide1 (fun W h => x_register mb rb X i.rs1 hi.rs1 W h)
 have hwa : Hid (XAt ((w.alloc (niC i)).alloc (.cells #[.int .i64 0, .int .i64 0] 118)) mb rb X) := zq22
 have AP : Hid (∀ W, CS 272 #[.int .i64 i.op] (.int .i64 (kD i.op)) W) := zq79
 have hkk := kD_ok i.op
 unfold niC at hwa
 unfold atX
 rw [if_pos h4]
 have TR := hide1 (fun W h => x_translate mb rb X hX (X.x.getD i.rs1 0) (kD i.op) ha hkk W h)
 have hok := tr_ok hX.b (xC X) (X.x.getD i.rs1 0) (kD i.op)
 have hpal := (tr_lt X.b (xC X) (X.x.getD i.rs1 0) (kD i.op) ha).1
 unfold wordAtD
 obtain ⟨T, hT⟩ := zn1 (trD X.b (xC X) (X.x.getD i.rs1 0) (kD i.op))
 simp only [<- hT] at TR hok hpal hf hh |-
 clear hT
 obtain ⟨⟨pa, f⟩, B⟩ := T
 have hXB := XS.okB hX hok
 have hram := hok.ram
 dsimp only at TR hok hpal hram hXB hf hh |-
 unfold wordAtP
 dsimp only
 obtain ⟨a, hae⟩ := zn1 (X.x.getD i.rs1 0)
 simp only [<- hae] at A1 ha h4 TR |-
 have q : ((a : Int) % 4 != 0) = false := by simp; omega
 rw [if_pos hf, if_pos hh]
 subst hf
 unfold atF
 dsimp only
 rw [if_pos rfl]
 obtain ⟨hr1, hr2⟩ := holdsD_at hh
 simp only [trV_ok ((pa, 0), B) a (kD i.op) rfl] at TR
 try dsimp only at TR
 have IR : Hid (∀ W, Hid (XAt W mb rb (X.withB B)) -> CS 261 #[.pointer (some ⟨mb, 0, none⟩), .int .i64 pa, .int .i64 4] (.bool true) W) := zq80
 obtain ⟨p, hpp⟩ := zn1 (pa - 2147483648)
 have hpe : pa = 2147483648 + p := by omega
 have hl : p + 4 <= (X.withB B).b.ram.length := by show p + 4 <= B.ram.length; omega
 have eG : atG (X.withB B) i pa = scX (X.withB B) i pa p := by unfold atG; rw [<- hpp]; rw [if_neg (by omega), if_pos hop]
 rw [eG]
 have DO := hide1 (fun W h => x_sc mb rb (X.withB B) hXB i hi pa p hpe hl W h)
 obtain ⟨Y, hY⟩ := zn1 (scX (X.withB B) i pa p)
 simp only [<- hY] at DO |-
 obtain ⟨k, hke⟩ := zn1 (kD i.op)
 simp only [<- hke] at AP TR
 unfold niV at DO
 unfold niV excA
 obtain ⟨op, rd, rs1, rs2, im, ln⟩ := i
 dsimp only at *
 subst hop
 clear hX hi hae hke h4 hkk hXB hok hram hw hh hpe hl eG hY hpp hr1 hr2
 go_enter func201, ntmps201
 go_wp2_with (first | (go_at_call 39; refine (A1.out _ hwa).mono ?_; rintro o w5 ⟨rfl, rfl⟩) | (go_at_call 272; refine (AP.out _).mono ?_; rintro o w5 ⟨rfl, rfl⟩))
 refine (TR.out _ hwa).mono ?_
 rintro o w1 ⟨rfl, hx1, hk1⟩
 obtain ⟨ic0w1, ic1w1, ic2w1, ic3w1, ic4w1, ic5w1, ifw1, izw1, izw11, inw11, izw12, inw12, izw13, inw13, izw14, inw14⟩ : Zc6 w1 w.heap.size 51 rd rs1 rs2 im ln := zq168
 exact zq282
theorem x_atomic_am (mb rb X) (hX : XOk X) (i : NI) (hi : NIOk i) (hop : 52 <= i.op /\ i.op <= 60) (h4 : X.x.getD i.rs1 0 % 4 = 0) (hf : (trD X.b (xC X) (X.x.getD i.rs1 0) (kD i.op)).1.2 = 0) (hh : holdsD ((trD X.b (xC X) (X.x.getD i.rs1 0) (kD i.op)).1.1 : Nat) 4 (trD X.b (xC X) (X.x.getD i.rs1 0) (kD i.op)).2.ram.length = true) (w) (hw : Hid (XAt w mb rb X)) :
 CX 201 #[.pointer (some ⟨mb, 0, none⟩), niV i] (excA (atX X i).1.1 (atX X i).1.2) [mb, rb] mb rb ((atX X i).2) w := by
 have hlt := hw.out.lt
 have hrlt := hw.out.rlt
 have hlt' : ¬ mb = w.heap.size := by omega
 have ha := hX.xr i.rs1
 have A1 := hide1 (fun W h => x_register mb rb X i.rs1 hi.rs1 W h)
 have hwa : Hid (XAt ((w.alloc (niC i)).alloc (.cells #[.int .i64 0, .int .i64 0] 118)) mb rb X) := zq22
 have AP : Hid (∀ W, CS 272 #[.int .i64 i.op] (.int .i64 (kD i.op)) W) := zq79
 have hkk := kD_ok i.op
 unfold niC at hwa
 unfold atX
 rw [if_pos h4]
 have TR := hide1 (fun W h => x_translate mb rb X hX (X.x.getD i.rs1 0) (kD i.op) ha hkk W h)
 have hok := tr_ok hX.b (xC X) (X.x.getD i.rs1 0) (kD i.op)
 have hpal := (tr_lt X.b (xC X) (X.x.getD i.rs1 0) (kD i.op) ha).1
 unfold wordAtD
 obtain ⟨T, hT⟩ := zn1 (trD X.b (xC X) (X.x.getD i.rs1 0) (kD i.op))
 simp only [<- hT] at TR hok hpal hf hh |-
 clear hT
 obtain ⟨⟨pa, f⟩, B⟩ := T
 have hXB := XS.okB hX hok
 have hram := hok.ram
 dsimp only at TR hok hpal hram hXB hf hh |-
 unfold wordAtP
 dsimp only
 obtain ⟨a, hae⟩ := zn1 (X.x.getD i.rs1 0)
 simp only [<- hae] at A1 ha h4 TR |-
 have q : ((a : Int) % 4 != 0) = false := by simp; omega
 rw [if_pos hf, if_pos hh]
 subst hf
 unfold atF
 dsimp only
 rw [if_pos rfl]
 obtain ⟨hr1, hr2⟩ := holdsD_at hh
 simp only [trV_ok ((pa, 0), B) a (kD i.op) rfl] at TR
 try dsimp only at TR
 have IR : Hid (∀ W, Hid (XAt W mb rb (X.withB B)) -> CS 261 #[.pointer (some ⟨mb, 0, none⟩), .int .i64 pa, .int .i64 4] (.bool true) W) := zq80
 obtain ⟨p, hpp⟩ := zn1 (pa - 2147483648)
 have hpe : pa = 2147483648 + p := by omega
 have hl : p + 4 <= (X.withB B).b.ram.length := by show p + 4 <= B.ram.length; omega
 have eG : atG (X.withB B) i pa = amoX (X.withB B) i p := by unfold atG; rw [<- hpp]; rw [if_neg (by omega), if_neg (by omega)]
 rw [eG]
 have DO := hide1 (fun W h => x_modify mb rb (X.withB B) hXB i hi pa p hpe hl hop W h)
 obtain ⟨Y, hY⟩ := zn1 (amoX (X.withB B) i p)
 simp only [<- hY] at DO |-
 obtain ⟨k, hke⟩ := zn1 (kD i.op)
 simp only [<- hke] at AP TR
 unfold niV at DO
 unfold niV excA
 obtain ⟨op, rd, rs1, rs2, im, ln⟩ := i
 dsimp only at *
 have q50 : (op == 50) = false := by simp; omega
 have q51 : (op == 51) = false := by simp; omega
 clear hX hi hae hke h4 hkk hXB hok hram hw hh hpe hl eG hY hpp hr1 hr2 hop
 go_enter func201, ntmps201
 go_wp2_with (first | (go_at_call 39; refine (A1.out _ hwa).mono ?_; rintro o w5 ⟨rfl, rfl⟩) | (go_at_call 272; refine (AP.out _).mono ?_; rintro o w5 ⟨rfl, rfl⟩))
 refine (TR.out _ hwa).mono ?_
 rintro o w1 ⟨rfl, hx1, hk1⟩
 obtain ⟨ic0w1, ic1w1, ic2w1, ic3w1, ic4w1, ic5w1, ifw1, izw1, izw11, inw11, izw12, inw12, izw13, inw13, izw14, inw14⟩ : Zc6 w1 w.heap.size op rd rs1 rs2 im ln := zq168
 exact zq282
theorem x_atomic (mb rb X) (hX : XOk X) (i : NI) (hi : NIOk i) (hop : 50 <= i.op /\ i.op <= 60) (w) (hw : Hid (XAt w mb rb X)) :
 CX 201 #[.pointer (some ⟨mb, 0, none⟩), niV i] (excA (atX X i).1.1 (atX X i).1.2) [mb, rb] mb rb ((atX X i).2) w := by
 by_cases h4 : X.x.getD i.rs1 0 % 4 = 0
 . by_cases hf : (trD X.b (xC X) (X.x.getD i.rs1 0) (kD i.op)).1.2 = 0
   . cases hh : holdsD ((trD X.b (xC X) (X.x.getD i.rs1 0) (kD i.op)).1.1 : Nat) 4 (trD X.b (xC X) (X.x.getD i.rs1 0) (kD i.op)).2.ram.length with
     | false => exact x_atomic_n mb rb X hX i hi h4 hf hh w hw
     | true =>
      by_cases h50 : i.op = 50
      . exact x_atomic_lr mb rb X hX i hi h50 h4 hf hh w hw
      by_cases h51 : i.op = 51
      . exact x_atomic_sc mb rb X hX i hi h51 h4 hf hh w hw
      exact x_atomic_am mb rb X hX i hi (by omega) h4 hf hh w hw
   . exact x_atomic_f mb rb X hX i hi h4 hf w hw
 . exact x_atomic_a mb rb X hX i hi h4 w hw
def penD (X : XS) : Nat := X.c.mip ||| tlnD X.b ||| plnD X.b
theorem tln_lt (B : BusS) (h : B.msip < 2) : tlnD B < 256 := by
 unfold tlnD
 exact nat_or_lt _ _ 8 (by omega) (by cases mtipD B <;> decide)
theorem pln_lt (B : BusS) : plnD B < 4096 := by unfold plnD; split <;> omega
theorem pen_lt (X : XS) (hX : XOk X) : penD X < 4096 := by
 have h1 := hX.mip
 have h2 := tln_lt X.b hX.b.msip
 have h3 := pln_lt X.b
 unfold penD
 exact nat_or_lt _ _ 12 (nat_or_lt _ _ 12 (by omega) (by omega)) h3
theorem x_pending (mb rb X) (hX : XOk X) (w) (hw : Hid (XAt w mb rb X)) :
 CK 126 #[.pointer (some ⟨mb, 0, none⟩)] (.int .i64 (penD X)) w := by
 have c42 := hw.out.c42
 have c61 := hw.out.c61
 have c62 := hw.out.c62
 have c63 := hw.out.c63
 have c64 := hw.out.c64
 have c65 := hw.out.c65
 have c66 := hw.out.c66
 have c67 := hw.out.c67
 have c68 := hw.out.c68
 have c69 := hw.out.c69
 have c70 := hw.out.c70
 have hm := hX.mip
 have ht := tln_lt X.b hX.b.msip
 have hp := pln_lt X.b
 have TL := fun W => hide1 (x_tlines X.b hX.b W)
 have PL := fun W => hide1 (x_plines X.b hX.b.enable W)
 have o1 := b_or X.c.mip (tlnD X.b) (by omega) (by omega)
 have hl1 : (X.c.mip ||| tlnD X.b) < 4096 := nat_or_lt _ _ 12 (by omega) (by omega)
 have o2 := b_or (X.c.mip ||| tlnD X.b) (plnD X.b) (by omega) (by omega)
 unfold penD
 obtain ⟨t, hte⟩ := zn1 (tlnD X.b)
 obtain ⟨p, hpe⟩ := zn1 (plnD X.b)
 simp only [<- hte, <- hpe] at TL PL o1 o2 |-
 obtain ⟨u, hue⟩ := zn1 (X.c.mip ||| t)
 rw [<- hue] at o1 o2 |-
 obtain ⟨v, hve⟩ := zn1 (u ||| p)
 rw [<- hve] at o2 |-
 unfold tmrA at TL
 unfold prtA at PL
 clear hte hpe hue hve hX hm ht hp hl1
 go_enter func126, ntmps126
 go_upto_region 1 with fail
 go_region_held3 (fun w' => w'.cell? ⟨mb, 42, none⟩ = some (.int .i64 X.c.mip) /\ w'.cell? ⟨mb, 61, none⟩ = some (.int .i64 X.b.msip) /\ w'.cell? ⟨mb, 62, none⟩ = some (.int .i64 X.b.time) /\ w'.cell? ⟨mb, 63, none⟩ = some (.int .i64 X.b.timeh) /\ w'.cell? ⟨mb, 64, none⟩ = some (.int .i64 X.b.cmp) /\ w'.cell? ⟨mb, 65, none⟩ = some (.int .i64 X.b.cmph) /\ w'.cell? ⟨mb, 66, none⟩ = some (.int .i64 X.b.enable) /\ w'.cell? ⟨mb, 67, none⟩ = some (.int .i64 X.b.scratch) /\ w'.cell? ⟨mb, 68, none⟩ = some (.bool X.b.lost) /\ w'.cell? ⟨mb, 69, none⟩ = some (.string X.b.rx) /\ w'.cell? ⟨mb, 70, none⟩ = some (.string X.b.tx)) (first | go_keep | exact ⟨hx1.c42, hx1.c61, hx1.c62, hx1.c63, hx1.c64, hx1.c65, hx1.c66, hx1.c67, hx1.c68, hx1.c69, hx1.c70⟩ | exact ⟨hx2.c42, hx2.c61, hx2.c62, hx2.c63, hx2.c64, hx2.c65, hx2.c66, hx2.c67, hx2.c68, hx2.c69, hx2.c70⟩) (first | (go_at_call 185; refine (TL _).out.mono ?_; rintro o w1 ⟨rfl, hk1⟩; have hx1 : XAt w1 mb rb X := XAt.kept hw.out.drew hk1) | (go_at_call 186; refine (PL _).out.mono ?_; rintro o w2 ⟨rfl, hk2⟩; have hx2 : XAt w2 mb rb X := XAt.kept hx1 hk2))
 all_goals
  go_wp2_with fail
  go_ret
  exact ⟨rfl, ((Kept.refl _ _).drew.trans hk1).trans hk2⟩
def askD (X : XS) : Nat := penD X &&& X.c.mie
theorem x_asked (mb rb X) (hX : XOk X) (w) (hw : Hid (XAt w mb rb X)) :
 CK 78 #[.pointer (some ⟨mb, 0, none⟩)] (.int .i64 (askD X)) w := by
 have c41 := hw.out.c41
 have hp := pen_lt X hX
 have hm := hX.mie
 have o1 := b_and (penD X) X.c.mie (by omega) (by omega)
 have PE := hide1 (fun W h => x_pending mb rb X hX W h)
 unfold askD
 obtain ⟨p, hpe⟩ := zn1 (penD X)
 simp only [<- hpe] at PE o1 |-
 obtain ⟨u, hue⟩ := zn1 (p &&& X.c.mie)
 rw [<- hue] at o1 |-
 clear hpe hue hX hm hp
 go_enter func78, ntmps78
 go_upto_region 1 with fail
 go_region_held3 (fun w' => w'.cell? ⟨mb, 41, none⟩ = some (.int .i64 X.c.mie)) (first | go_keep | exact hx1.c41) (first | (go_at_call 126; refine (PE.out _ (hide1 hw.out.drew)).mono ?_; rintro o w1 ⟨rfl, hk1⟩; have hx1 : XAt w1 mb rb X := XAt.kept hw.out.drew hk1))
 all_goals
  go_wp2_with fail
  go_ret
  exact ⟨rfl, (Kept.refl _ _).drew.trans hk1⟩
def dlgB (X : XS) (d c : Nat) : Bool := decide (X.mode ≠ 3) && xhbD d c
theorem x_delegates (mb rb : Nat) (X : XS) (d c : Nat) (hd : d < 4294967296) (w) (hw : Hid (XAt w mb rb X)) :
 CS 128 #[.pointer (some ⟨mb, 0, none⟩), .int .i64 d, .int .i64 c] (.bool (dlgB X d c)) w := by
 have c34 := hw.out.c34
 have HB := hide1 (x_hasBit d c hd)
 unfold dlgB
 obtain ⟨b, hb⟩ := zn1 (xhbD d c)
 simp only [<- hb] at HB |-
 by_cases h : X.mode = 3
 . rw [h] at c34 |-
   clear hb h
   go_enter func128, ntmps128
   go_wp2_with (go_at_call 187; refine (HB.out _).mono ?_; rintro o w1 ⟨rfl, rfl⟩)
   exact zq196
 . have q : ((X.mode : Int) != 3) = true := by simp; omega
   have q' : (X.mode != 3) = true := by simp; omega
   rw [show decide (X.mode ≠ 3) = true by simp [h]]
   clear hb h
   go_enter func128, ntmps128
   go_wp2_with (go_at_call 187; refine (HB.out _).mono ?_; rintro o w1 ⟨rfl, rfl⟩)
   go_ret
   exact ⟨by simp, rfl⟩
def intB (b1 b2 b3 b4 b5 b6 b7 : Bool) (u v : Int) : Int := if (b1 && (b2 || b3)) = true then u else if (b4 && (b5 || (b6 && b7))) = true then v else -1
def intD (X : XS) : Int := intB (!decide (wout (askD X) X.c.mideleg = 0)) (!decide (X.mode = 3)) (bitN X.c.mstatus 3) (!decide (askD X &&& X.c.mideleg = 0)) (decide (X.mode = 0)) (decide (X.mode = 1)) (bitN X.c.mstatus 1) (xmuD (wout (askD X) X.c.mideleg)) (xmuD (askD X &&& X.c.mideleg))
theorem x_interrupt (mb rb X) (hX : XOk X) (w) (hw : Hid (XAt w mb rb X)) :
 CK 79 #[.pointer (some ⟨mb, 0, none⟩)] (.int .i64 (intD X)) w := by
 have hp := pen_lt X hX
 have hms := hX.mstatus
 have hmd := hX.mideleg
 have hal : askD X < 4096 := by unfold askD; exact Nat.lt_of_le_of_lt Nat.and_le_left hp
 have AK := hide1 (fun W h => x_asked mb rb X hX W h)
 have o1 := b_andn (askD X) X.c.mideleg (by omega) (by omega)
 have o2 := b_and (askD X) X.c.mideleg (by omega) (by omega)
 have l1 : wout (askD X) X.c.mideleg < 4294967296 := Nat.lt_of_le_of_lt (wout_le _ _) (by omega)
 have l2 : (askD X &&& X.c.mideleg) < 4294967296 := Nat.lt_of_le_of_lt Nat.and_le_left (by omega)
 have M1 := hide1 (x_mostUrgent _ l1)
 have M2 := hide1 (x_mostUrgent _ l2)
 have n1 := ne0 (wout (askD X) X.c.mideleg)
 have n2 := ne0 (askD X &&& X.c.mideleg)
 have s1 : bits .and .i64 (X.c.mstatus : Int) 8 = ((X.c.mstatus &&& 8 : Nat) : Int) := b_and X.c.mstatus 8 (by omega) (by omega)
 have s3 := ne0 (X.c.mstatus &&& 8)
 rw [show decide (X.c.mstatus &&& 8 = 0) = !bitN X.c.mstatus 3 from t_bit _ 3, Bool.not_not, <- s1] at s3
 have s2 : bits .and .i64 (X.c.mstatus : Int) 2 = ((X.c.mstatus &&& 2 : Nat) : Int) := b_and X.c.mstatus 2 (by omega) (by omega)
 have s4 := ne0 (X.c.mstatus &&& 2)
 rw [show decide (X.c.mstatus &&& 2 = 0) = !bitN X.c.mstatus 1 from t_bit _ 1, Bool.not_not, <- s2] at s4
 have m3 : ((X.mode : Int) != 3) = !decide (X.mode = 3) := by by_cases h : X.mode = 3 <;> simp [h]; omega
 have m0 : ((X.mode : Int) == 0) = decide (X.mode = 0) := by by_cases h : X.mode = 0 <;> simp [h]
 have m1 : ((X.mode : Int) == 1) = decide (X.mode = 1) := by by_cases h : X.mode = 1 <;> simp [h]; omega
 unfold intD
 obtain ⟨a, hae⟩ := zn1 (askD X)
 simp only [<- hae] at AK o1 o2 M1 M2 n1 n2 l1 l2 |-
 obtain ⟨fm, hfm⟩ := zn1 (wout a X.c.mideleg)
 obtain ⟨fs, hfs⟩ := zn1 (a &&& X.c.mideleg)
 simp only [<- hfm] at o1 M1 n1 l1 |-
 simp only [<- hfs] at o2 M2 n2 l2 |-
 obtain ⟨b1, e1⟩ := zn1 (!decide (fm = 0))
 obtain ⟨b2, e2⟩ := zn1 (!decide (X.mode = 3))
 obtain ⟨b3, e3⟩ := zn1 (bitN X.c.mstatus 3)
 obtain ⟨b4, e4⟩ := zn1 (!decide (fs = 0))
 obtain ⟨b5, e5⟩ := zn1 (decide (X.mode = 0))
 obtain ⟨b6, e6⟩ := zn1 (decide (X.mode = 1))
 obtain ⟨b7, e7⟩ := zn1 (bitN X.c.mstatus 1)
 rw [<- e1] at n1 |-
 rw [<- e2] at m3 |-
 rw [<- e3] at s3 |-
 rw [<- e4] at n2 |-
 rw [<- e5] at m0 |-
 rw [<- e6] at m1 |-
 rw [<- e7] at s4 |-
 obtain ⟨T, hT⟩ := zn1 (intB b1 b2 b3 b4 b5 b6 b7 (xmuD fm) (xmuD fs))
 rw [<- hT]
 unfold intB at hT
 have HT := hide1 hT
 clear hT e1 e2 e3 e4 e5 e6 e7 hfm hfs hae hX hp hms hmd hal s1 s2 l1 l2
 go_enter func79, ntmps79
 go_wp2_with fail
 refine (AK.out _ hw).mono ?_
 rintro o w1 ⟨rfl, hk1⟩
 have hx1 := hw.out.kept hk1
 have c34 := hx1.c34
 have c38 := hx1.c38
 have c40 := hx1.c40
 go_wp2_with (first | (go_at_call_of 127 (Value.int IntKind.i64 (fm : Int)); refine (M1.out _).mono ?_; rintro o w2 ⟨rfl, rfl⟩) | (go_at_call_of 127 (Value.int IntKind.i64 (fs : Int)); refine (M2.out _).mono ?_; rintro o w2 ⟨rfl, rfl⟩))
 all_goals (go_ret; refine ⟨ret_intE ?_, hk1⟩; rw [HT.out]; simp_all)
def csL (X : XS) : List Value := [.int .i64 X.c.mstatus, .int .i64 X.c.medeleg, .int .i64 X.c.mideleg, .int .i64 X.c.mie, .int .i64 X.c.mip, .int .i64 X.c.mtvec, .int .i64 X.c.mcen, .int .i64 X.c.minh, .int .i64 X.c.mscratch, .int .i64 X.c.mepc, .int .i64 X.c.mcause, .int .i64 X.c.mtval, .int .i64 X.c.stvec, .int .i64 X.c.scen, .int .i64 X.c.sscratch, .int .i64 X.c.sepc, .int .i64 X.c.scause, .int .i64 X.c.stval, .int .i64 X.c.satp, .int .i64 X.c.cyc, .int .i64 X.c.cych, .int .i64 X.c.ret, .int .i64 X.c.reth]
theorem csL_at {w mb rb X} (h : XAt w mb rb X) : w.rangeAt mb 38 (csL X) := by
 intro j v hj
 have hl : j < 23 := by
  have := (List.getElem?_eq_some_iff.1 hj).1
  simpa [csL] using this
 have e : (xL rb X)[38 + j]? = (csL X)[j]? := by
  have h : j = 0 \/ j = 1 \/ j = 2 \/ j = 3 \/ j = 4 \/ j = 5 \/ j = 6 \/ j = 7 \/ j = 8 \/ j = 9 \/ j = 10 \/ j = 11 \/ j = 12 \/ j = 13 \/ j = 14 \/ j = 15 \/ j = 16 \/ j = 17 \/ j = 18 \/ j = 19 \/ j = 20 \/ j = 21 \/ j = 22 := by omega
  rcases h with rfl | rfl | rfl | rfl | rfl | rfl | rfl | rfl | rfl | rfl | rfl | rfl | rfl | rfl | rfl | rfl | rfl | rfl | rfl | rfl | rfl | rfl | rfl <;> rfl
 rw [h.cell (38 + j) (by omega), e, hj]
theorem info71 : (prog.info? 71).map (·.size) = some 23 := by kernel_rfl
theorem alloc_there (w : World) (a : Array Value) (T : Nat) : (w.alloc (.cells a T)).there w.heap.size 0 a.size := by
 intro j hj
 constructor
 . simp [hj]
 . simp
theorem Kept.setCells {F : List Nat} {a : World} (b : Nat) (hb : b ∈ F \/ a.heap.size <= b) : ∀ (vs : List Value) (o : Nat) (w : World), Kept F a w -> Kept F a (w.setCells b o vs)
 | [], o, w, h => h
 | v :: vs, o, w, h => Kept.setCells b hb vs (o + 1) _ (h.setCell hb v)
theorem copy_box (w : World) (z : Array Value) (T : Nat) (cs : Array Value) (h : cs.size = z.size) : ∃ w2, w2 = (w.alloc (.cells z T)).setCells w.heap.size 0 cs.toList /\ w2.rangeAt w.heap.size 0 cs.toList /\ Kept [] w w2 := by
 refine ⟨_, rfl, World.rangeAt_setCells_same _ _ _ _ ?_, Kept.setCells _ (.inr (Nat.le_refl _)) _ _ _ ((Kept.refl _ _).alloc _)⟩
 have := alloc_there w z T
 rw [<- h] at this
 simpa using this
theorem size_setCells (b : Nat) : ∀ (vs : List Value) (o : Nat) (w : World), (w.setCells b o vs).heap.size = w.heap.size
 | [], o, w => rfl
 | v :: vs, o, w => by rw [World.setCells, size_setCells b vs]; simp [World.setCell]
theorem x_readSuper_256 (mb rb X) (hX : XOk X) (w) (hw : Hid (XAt w mb rb X)) :
 CK 304 #[.pointer (some ⟨mb, 0, none⟩), .int .i64 256] (.tuple #[.int .i64 (X.c.mstatus &&& 786722 : Nat), .bool true]) w := by
 have hlt := hw.out.lt
 have hlt' : ¬ mb = w.heap.size := by omega
 have HR := hide1 (csL_at hw.out)
 obtain ⟨cs, hcs⟩ := zn1 (csL X)
 rw [<- hcs] at HR
 have HCS := hide1 hcs
 have hsz : cs.toArray.size = 23 := zq87
 clear hcs
 have hm := hX.mstatus
 have q : bits .and .i64 (X.c.mstatus : Int) 786722 = ((X.c.mstatus &&& 786722 : Nat) : Int) := b_and X.c.mstatus 786722 (by omega) (by omega)
 exact zq283
theorem x_readSuper_260 (mb rb X) (hX : XOk X) (w) (hw : Hid (XAt w mb rb X)) :
 CK 304 #[.pointer (some ⟨mb, 0, none⟩), .int .i64 260] (.tuple #[.int .i64 (X.c.mie &&& X.c.mideleg : Nat), .bool true]) w := by
 have hlt := hw.out.lt
 have hlt' : ¬ mb = w.heap.size := by omega
 have HR := hide1 (csL_at hw.out)
 obtain ⟨cs, hcs⟩ := zn1 (csL X)
 rw [<- hcs] at HR
 have HCS := hide1 hcs
 have hsz : cs.toArray.size = 23 := zq87
 clear hcs
 have hm := hX.mie
 have hd := hX.mideleg
 have q := b_and X.c.mie X.c.mideleg (by omega) (by omega)
 exact zq283
theorem x_readSuper_261 (mb rb X) (hX : XOk X) (w) (hw : Hid (XAt w mb rb X)) :
 CK 304 #[.pointer (some ⟨mb, 0, none⟩), .int .i64 261] (.tuple #[.int .i64 (X.c.stvec : Nat), .bool true]) w := zq284
theorem x_readSuper_262 (mb rb X) (hX : XOk X) (w) (hw : Hid (XAt w mb rb X)) :
 CK 304 #[.pointer (some ⟨mb, 0, none⟩), .int .i64 262] (.tuple #[.int .i64 (X.c.scen : Nat), .bool true]) w := zq284
theorem x_readSuper_320 (mb rb X) (hX : XOk X) (w) (hw : Hid (XAt w mb rb X)) :
 CK 304 #[.pointer (some ⟨mb, 0, none⟩), .int .i64 320] (.tuple #[.int .i64 (X.c.sscratch : Nat), .bool true]) w := zq284
theorem x_readSuper_321 (mb rb X) (hX : XOk X) (w) (hw : Hid (XAt w mb rb X)) :
 CK 304 #[.pointer (some ⟨mb, 0, none⟩), .int .i64 321] (.tuple #[.int .i64 (X.c.sepc : Nat), .bool true]) w := zq284
theorem x_readSuper_322 (mb rb X) (hX : XOk X) (w) (hw : Hid (XAt w mb rb X)) :
 CK 304 #[.pointer (some ⟨mb, 0, none⟩), .int .i64 322] (.tuple #[.int .i64 (X.c.scause : Nat), .bool true]) w := zq284
theorem x_readSuper_323 (mb rb X) (hX : XOk X) (w) (hw : Hid (XAt w mb rb X)) :
 CK 304 #[.pointer (some ⟨mb, 0, none⟩), .int .i64 323] (.tuple #[.int .i64 (X.c.stval : Nat), .bool true]) w := zq284
theorem x_readSuper_384 (mb rb X) (hX : XOk X) (w) (hw : Hid (XAt w mb rb X)) :
 CK 304 #[.pointer (some ⟨mb, 0, none⟩), .int .i64 384] (.tuple #[.int .i64 (X.c.satp : Nat), .bool true]) w := zq284
theorem x_readSuper_324 (mb rb X) (hX : XOk X) (w) (hw : Hid (XAt w mb rb X)) :
 CK 304 #[.pointer (some ⟨mb, 0, none⟩), .int .i64 324] (.tuple #[.int .i64 (penD X &&& X.c.mideleg : Nat), .bool true]) w := by
 have hlt := hw.out.lt
 have hrlt := hw.out.rlt
 have hlt' : ¬ mb = w.heap.size := by omega
 have HR := hide1 (csL_at hw.out)
 obtain ⟨cs, hcs⟩ := zn1 (csL X)
 rw [<- hcs] at HR
 have HCS := hide1 hcs
 have hsz : cs.toArray.size = 23 := zq87
 clear hcs
 have hd := hX.mideleg
 have hp := pen_lt X hX
 have q := b_and (penD X) X.c.mideleg (by omega) (by omega)
 have PE := hide1 (fun W h => x_pending mb rb X hX W h)
 obtain ⟨p, hpe⟩ := zn1 (penD X)
 simp only [<- hpe] at PE q |-
 obtain ⟨r, hr⟩ := zn1 (p &&& X.c.mideleg)
 rw [<- hr] at q |-
 clear hX hpe hr hp hd
 go_enter func304, ntmps304
 go_upto_region 1 with fail
 refine wp_region_lit ?_
 refine wpList_plain rfl (fun K hK => ?_)
 go_simp
 refine hK _ _ ?_
 clear hK K
 refine wpList_plain rfl (fun K hK => ?_)
 go_simp
 refine hK _ _ ?_
 clear hK K
 refine wpList_plain rfl (fun K hK => ?_)
 go_simp
 refine hK _ _ ?_
 clear hK K
 refine wpList_load_mid rfl _ _ rfl mb 38 (by rfl) cs _ HR.out Tryz.underlying71 rfl zq519 ?_
 refine wpList_plain rfl (fun K hK => ?_)
 go_simp
 refine hK _ _ ?_
 clear hK K
 refine wpList_store_mid rfl _ _ _ rfl w.heap.size 0 cs.toArray rfl rfl zq520 zq521 zq522 ?_
 obtain ⟨w2, hw2, hr2, hk2⟩ := copy_box w (#[.int .i64 0, .int .i64 0, .int .i64 0, .int .i64 0, .int .i64 0, .int .i64 0, .int .i64 0, .int .i64 0, .int .i64 0, .int .i64 0, .int .i64 0, .int .i64 0, .int .i64 0, .int .i64 0, .int .i64 0, .int .i64 0, .int .i64 0, .int .i64 0, .int .i64 0, .int .i64 0, .int .i64 0, .int .i64 0, .int .i64 0]) 71 cs.toArray hsz
 rw [<- hw2]
 have hz2 : w.heap.size < w2.heap.size := zq88
 clear hw2
 have d0 : w2.cell? ⟨w.heap.size, 0, none⟩ = some (.int .i64 X.c.mstatus) := zq89
 have d1 : w2.cell? ⟨w.heap.size, 1, none⟩ = some (.int .i64 X.c.medeleg) := zq90
 have d2 : w2.cell? ⟨w.heap.size, 2, none⟩ = some (.int .i64 X.c.mideleg) := zq91
 have d3 : w2.cell? ⟨w.heap.size, 3, none⟩ = some (.int .i64 X.c.mie) := zq92
 have d4 : w2.cell? ⟨w.heap.size, 4, none⟩ = some (.int .i64 X.c.mip) := zq93
 have d5 : w2.cell? ⟨w.heap.size, 5, none⟩ = some (.int .i64 X.c.mtvec) := zq94
 have d6 : w2.cell? ⟨w.heap.size, 6, none⟩ = some (.int .i64 X.c.mcen) := zq95
 have d7 : w2.cell? ⟨w.heap.size, 7, none⟩ = some (.int .i64 X.c.minh) := zq96
 have d8 : w2.cell? ⟨w.heap.size, 8, none⟩ = some (.int .i64 X.c.mscratch) := zq97
 have d9 : w2.cell? ⟨w.heap.size, 9, none⟩ = some (.int .i64 X.c.mepc) := zq98
 have d10 : w2.cell? ⟨w.heap.size, 10, none⟩ = some (.int .i64 X.c.mcause) := zq99
 have d11 : w2.cell? ⟨w.heap.size, 11, none⟩ = some (.int .i64 X.c.mtval) := zq100
 have d12 : w2.cell? ⟨w.heap.size, 12, none⟩ = some (.int .i64 X.c.stvec) := zq101
 have d13 : w2.cell? ⟨w.heap.size, 13, none⟩ = some (.int .i64 X.c.scen) := zq102
 have d14 : w2.cell? ⟨w.heap.size, 14, none⟩ = some (.int .i64 X.c.sscratch) := zq103
 have d15 : w2.cell? ⟨w.heap.size, 15, none⟩ = some (.int .i64 X.c.sepc) := zq104
 have d16 : w2.cell? ⟨w.heap.size, 16, none⟩ = some (.int .i64 X.c.scause) := zq105
 have d17 : w2.cell? ⟨w.heap.size, 17, none⟩ = some (.int .i64 X.c.stval) := zq106
 have d18 : w2.cell? ⟨w.heap.size, 18, none⟩ = some (.int .i64 X.c.satp) := zq107
 have d19 : w2.cell? ⟨w.heap.size, 19, none⟩ = some (.int .i64 X.c.cyc) := zq108
 have d20 : w2.cell? ⟨w.heap.size, 20, none⟩ = some (.int .i64 X.c.cych) := zq109
 have d21 : w2.cell? ⟨w.heap.size, 21, none⟩ = some (.int .i64 X.c.ret) := zq110
 have d22 : w2.cell? ⟨w.heap.size, 22, none⟩ = some (.int .i64 X.c.reth) := zq111
 clear hr2
 refine wpList_nil ?_
 have hx2 := hw.out.kept hk2
 go_upto_region 20 with fail
 go_region_held3 (fun w' => w'.cell? ⟨w.heap.size, 2, none⟩ = some (.int .i64 X.c.mideleg)) (first | go_keep | exact (hk1.cell (p := ⟨w.heap.size, 2, none⟩) hz2 (by simp)).trans d2) (first | (go_at_call 126; refine (PE.out _ (hide1 hx2.drew)).mono ?_; rintro o w1 ⟨rfl, hk1⟩))
 all_goals
  go_wp2_with fail
  go_ret2
  exact ⟨rfl, (hk2.trans (Kept.refl _ _).drew).trans hk1⟩
theorem x_readSuper_no (mb rb : Nat) (X : XS) (n : Int) (q256 : (n == 256) = false) (q260 : (n == 260) = false) (q261 : (n == 261) = false) (q262 : (n == 262) = false) (q320 : (n == 320) = false) (q321 : (n == 321) = false) (q322 : (n == 322) = false) (q323 : (n == 323) = false) (q324 : (n == 324) = false) (q384 : (n == 384) = false) (w) (hw : Hid (XAt w mb rb X)) :
 CK 304 #[.pointer (some ⟨mb, 0, none⟩), .int .i64 n] (.tuple #[.int .i64 0, .bool false]) w := by
 have hlt := hw.out.lt
 have hlt' : ¬ mb = w.heap.size := by omega
 have HR := hide1 (csL_at hw.out)
 obtain ⟨cs, hcs⟩ := zn1 (csL X)
 rw [<- hcs] at HR
 have HCS := hide1 hcs
 have hsz : cs.toArray.size = 23 := zq87
 clear hcs
 clear hw
 exact zq285
def supD (X : XS) (n : Int) : Nat × Bool :=
 if n = 256 then (X.c.mstatus &&& 786722, true) else if n = 260 then (X.c.mie &&& X.c.mideleg, true) else if n = 261 then (X.c.stvec, true) else if n = 262 then (X.c.scen, true) else if n = 320 then (X.c.sscratch, true) else if n = 321 then (X.c.sepc, true) else if n = 322 then (X.c.scause, true) else if n = 323 then (X.c.stval, true) else if n = 324 then (penD X &&& X.c.mideleg, true) else if n = 384 then (X.c.satp, true) else (0, false)
theorem x_readSuper (mb rb X) (hX : XOk X) (n : Int) (w) (hw : Hid (XAt w mb rb X)) :
 CK 304 #[.pointer (some ⟨mb, 0, none⟩), .int .i64 n] (.tuple #[.int .i64 ((supD X n).1 : Nat), .bool (supD X n).2]) w := by
 by_cases h256 : n = 256
 . subst h256; exact x_readSuper_256 mb rb X hX w hw
 by_cases h260 : n = 260
 . subst h260; exact x_readSuper_260 mb rb X hX w hw
 by_cases h261 : n = 261
 . subst h261; exact x_readSuper_261 mb rb X hX w hw
 by_cases h262 : n = 262
 . subst h262; exact x_readSuper_262 mb rb X hX w hw
 by_cases h320 : n = 320
 . subst h320; exact x_readSuper_320 mb rb X hX w hw
 by_cases h321 : n = 321
 . subst h321; exact x_readSuper_321 mb rb X hX w hw
 by_cases h322 : n = 322
 . subst h322; exact x_readSuper_322 mb rb X hX w hw
 by_cases h323 : n = 323
 . subst h323; exact x_readSuper_323 mb rb X hX w hw
 by_cases h324 : n = 324
 . subst h324; exact x_readSuper_324 mb rb X hX w hw
 by_cases h384 : n = 384
 . subst h384; exact x_readSuper_384 mb rb X hX w hw
 rw [show supD X n = (0, false) by unfold supD; simp [h256, h260, h261, h262, h320, h321, h322, h323, h324, h384]]
 exact x_readSuper_no mb rb X n (by simp [h256]) (by simp [h260]) (by simp [h261]) (by simp [h262]) (by simp [h320]) (by simp [h321]) (by simp [h322]) (by simp [h323]) (by simp [h324]) (by simp [h384]) w hw
theorem x_readMach_768 (mb rb X) (hX : XOk X) (w) (hw : Hid (XAt w mb rb X)) :
 CK 305 #[.pointer (some ⟨mb, 0, none⟩), .int .i64 768] (.tuple #[.int .i64 (X.c.mstatus : Nat), .bool true]) w := zq286
theorem x_readMach_770 (mb rb X) (hX : XOk X) (w) (hw : Hid (XAt w mb rb X)) :
 CK 305 #[.pointer (some ⟨mb, 0, none⟩), .int .i64 770] (.tuple #[.int .i64 (X.c.medeleg : Nat), .bool true]) w := zq286
theorem x_readMach_771 (mb rb X) (hX : XOk X) (w) (hw : Hid (XAt w mb rb X)) :
 CK 305 #[.pointer (some ⟨mb, 0, none⟩), .int .i64 771] (.tuple #[.int .i64 (X.c.mideleg : Nat), .bool true]) w := zq286
theorem x_readMach_772 (mb rb X) (hX : XOk X) (w) (hw : Hid (XAt w mb rb X)) :
 CK 305 #[.pointer (some ⟨mb, 0, none⟩), .int .i64 772] (.tuple #[.int .i64 (X.c.mie : Nat), .bool true]) w := zq286
theorem x_readMach_773 (mb rb X) (hX : XOk X) (w) (hw : Hid (XAt w mb rb X)) :
 CK 305 #[.pointer (some ⟨mb, 0, none⟩), .int .i64 773] (.tuple #[.int .i64 (X.c.mtvec : Nat), .bool true]) w := zq286
theorem x_readMach_774 (mb rb X) (hX : XOk X) (w) (hw : Hid (XAt w mb rb X)) :
 CK 305 #[.pointer (some ⟨mb, 0, none⟩), .int .i64 774] (.tuple #[.int .i64 (X.c.mcen : Nat), .bool true]) w := zq286
theorem x_readMach_800 (mb rb X) (hX : XOk X) (w) (hw : Hid (XAt w mb rb X)) :
 CK 305 #[.pointer (some ⟨mb, 0, none⟩), .int .i64 800] (.tuple #[.int .i64 (X.c.minh : Nat), .bool true]) w := zq286
theorem x_readMach_832 (mb rb X) (hX : XOk X) (w) (hw : Hid (XAt w mb rb X)) :
 CK 305 #[.pointer (some ⟨mb, 0, none⟩), .int .i64 832] (.tuple #[.int .i64 (X.c.mscratch : Nat), .bool true]) w := zq286
theorem x_readMach_833 (mb rb X) (hX : XOk X) (w) (hw : Hid (XAt w mb rb X)) :
 CK 305 #[.pointer (some ⟨mb, 0, none⟩), .int .i64 833] (.tuple #[.int .i64 (X.c.mepc : Nat), .bool true]) w := zq286
theorem x_readMach_834 (mb rb X) (hX : XOk X) (w) (hw : Hid (XAt w mb rb X)) :
 CK 305 #[.pointer (some ⟨mb, 0, none⟩), .int .i64 834] (.tuple #[.int .i64 (X.c.mcause : Nat), .bool true]) w := zq286
theorem x_readMach_835 (mb rb X) (hX : XOk X) (w) (hw : Hid (XAt w mb rb X)) :
 CK 305 #[.pointer (some ⟨mb, 0, none⟩), .int .i64 835] (.tuple #[.int .i64 (X.c.mtval : Nat), .bool true]) w := zq286
theorem x_readMach_769 (mb rb X) (hX : XOk X) (w) (hw : Hid (XAt w mb rb X)) :
 CK 305 #[.pointer (some ⟨mb, 0, none⟩), .int .i64 769] (.tuple #[.int .i64 (1075056901 : Nat), .bool true]) w := zq286
theorem x_readMach_836 (mb rb X) (hX : XOk X) (w) (hw : Hid (XAt w mb rb X)) :
 CK 305 #[.pointer (some ⟨mb, 0, none⟩), .int .i64 836] (.tuple #[.int .i64 (penD X : Nat), .bool true]) w := by
 have hlt := hw.out.lt
 have hlt' : ¬ mb = w.heap.size := by omega
 have HR := hide1 (csL_at hw.out)
 obtain ⟨cs, hcs⟩ := zn1 (csL X)
 rw [<- hcs] at HR
 have HCS := hide1 hcs
 have hsz : cs.toArray.size = 23 := zq87
 clear hcs
 have PE := hide1 (fun W h => x_pending mb rb X hX W h)
 obtain ⟨p, hpe⟩ := zn1 (penD X)
 simp only [<- hpe] at PE |-
 clear hX hpe
 go_enter func305, ntmps305
 go_upto_region 1 with fail
 refine wp_region_lit ?_
 refine wpList_plain rfl (fun K hK => ?_)
 go_simp
 refine hK _ _ ?_
 clear hK K
 refine wpList_plain rfl (fun K hK => ?_)
 go_simp
 refine hK _ _ ?_
 clear hK K
 refine wpList_plain rfl (fun K hK => ?_)
 go_simp
 refine hK _ _ ?_
 clear hK K
 refine wpList_load_mid rfl _ _ rfl mb 38 (by rfl) cs _ HR.out Tryz.underlying71 rfl zq519 ?_
 refine wpList_plain rfl (fun K hK => ?_)
 go_simp
 refine hK _ _ ?_
 clear hK K
 refine wpList_store_mid rfl _ _ _ rfl w.heap.size 0 cs.toArray rfl rfl zq520 zq521 zq522 ?_
 obtain ⟨w2, hw2, hr2, hk2⟩ := copy_box w (#[.int .i64 0, .int .i64 0, .int .i64 0, .int .i64 0, .int .i64 0, .int .i64 0, .int .i64 0, .int .i64 0, .int .i64 0, .int .i64 0, .int .i64 0, .int .i64 0, .int .i64 0, .int .i64 0, .int .i64 0, .int .i64 0, .int .i64 0, .int .i64 0, .int .i64 0, .int .i64 0, .int .i64 0, .int .i64 0, .int .i64 0]) 71 cs.toArray hsz
 rw [<- hw2]
 have hz2 : w.heap.size < w2.heap.size := zq88
 clear hw2
 have d0 : w2.cell? ⟨w.heap.size, 0, none⟩ = some (.int .i64 X.c.mstatus) := zq89
 have d1 : w2.cell? ⟨w.heap.size, 1, none⟩ = some (.int .i64 X.c.medeleg) := zq90
 have d2 : w2.cell? ⟨w.heap.size, 2, none⟩ = some (.int .i64 X.c.mideleg) := zq91
 have d3 : w2.cell? ⟨w.heap.size, 3, none⟩ = some (.int .i64 X.c.mie) := zq92
 have d4 : w2.cell? ⟨w.heap.size, 4, none⟩ = some (.int .i64 X.c.mip) := zq93
 have d5 : w2.cell? ⟨w.heap.size, 5, none⟩ = some (.int .i64 X.c.mtvec) := zq94
 have d6 : w2.cell? ⟨w.heap.size, 6, none⟩ = some (.int .i64 X.c.mcen) := zq95
 have d7 : w2.cell? ⟨w.heap.size, 7, none⟩ = some (.int .i64 X.c.minh) := zq96
 have d8 : w2.cell? ⟨w.heap.size, 8, none⟩ = some (.int .i64 X.c.mscratch) := zq97
 have d9 : w2.cell? ⟨w.heap.size, 9, none⟩ = some (.int .i64 X.c.mepc) := zq98
 have d10 : w2.cell? ⟨w.heap.size, 10, none⟩ = some (.int .i64 X.c.mcause) := zq99
 have d11 : w2.cell? ⟨w.heap.size, 11, none⟩ = some (.int .i64 X.c.mtval) := zq100
 have d12 : w2.cell? ⟨w.heap.size, 12, none⟩ = some (.int .i64 X.c.stvec) := zq101
 have d13 : w2.cell? ⟨w.heap.size, 13, none⟩ = some (.int .i64 X.c.scen) := zq102
 have d14 : w2.cell? ⟨w.heap.size, 14, none⟩ = some (.int .i64 X.c.sscratch) := zq103
 have d15 : w2.cell? ⟨w.heap.size, 15, none⟩ = some (.int .i64 X.c.sepc) := zq104
 have d16 : w2.cell? ⟨w.heap.size, 16, none⟩ = some (.int .i64 X.c.scause) := zq105
 have d17 : w2.cell? ⟨w.heap.size, 17, none⟩ = some (.int .i64 X.c.stval) := zq106
 have d18 : w2.cell? ⟨w.heap.size, 18, none⟩ = some (.int .i64 X.c.satp) := zq107
 have d19 : w2.cell? ⟨w.heap.size, 19, none⟩ = some (.int .i64 X.c.cyc) := zq108
 have d20 : w2.cell? ⟨w.heap.size, 20, none⟩ = some (.int .i64 X.c.cych) := zq109
 have d21 : w2.cell? ⟨w.heap.size, 21, none⟩ = some (.int .i64 X.c.ret) := zq110
 have d22 : w2.cell? ⟨w.heap.size, 22, none⟩ = some (.int .i64 X.c.reth) := zq111
 clear hr2
 refine wpList_nil ?_
 have hx2 := hw.out.kept hk2
 go_wp2_with (go_at_call 126; refine (PE.out _ (hide1 hx2)).mono ?_; rintro o w1 ⟨rfl, hk1⟩)
 go_ret2
 exact ⟨rfl, hk2.trans hk1⟩
theorem x_readMach_no (mb rb : Nat) (X : XS) (n : Int) (q768 : (n == 768) = false) (q769 : (n == 769) = false) (q770 : (n == 770) = false) (q771 : (n == 771) = false) (q772 : (n == 772) = false) (q773 : (n == 773) = false) (q774 : (n == 774) = false) (q800 : (n == 800) = false) (q832 : (n == 832) = false) (q833 : (n == 833) = false) (q834 : (n == 834) = false) (q835 : (n == 835) = false) (q836 : (n == 836) = false) (w) (hw : Hid (XAt w mb rb X)) :
 CK 305 #[.pointer (some ⟨mb, 0, none⟩), .int .i64 n] (.tuple #[.int .i64 0, .bool (decide (803 <= n /\ n <= 831))]) w := by
 have hlt := hw.out.lt
 have hlt' : ¬ mb = w.heap.size := by omega
 have HR := hide1 (csL_at hw.out)
 obtain ⟨cs, hcs⟩ := zn1 (csL X)
 rw [<- hcs] at HR
 have HCS := hide1 hcs
 have hsz : cs.toArray.size = 23 := zq87
 clear hcs
 clear hw
 obtain ⟨T, hT⟩ := zn1 (decide (803 <= n /\ n <= 831))
 rw [<- hT]
 by_cases h1 : 803 <= n
 . have q1 : decide (803 <= n) = true := by simp [h1]
   by_cases h2 : n <= 831
   . have q2 : decide (n <= 831) = true := by simp [h2]
     have HT : Hid (T = true) := by rw [hT]; show _ = _; simp [h1, h2]
     exact zq287
   . have q2 : decide (n <= 831) = false := by simp; omega
     have HT : Hid (T = false) := by rw [hT]; show _ = _; simp [h2]
     exact zq287
 . have q1 : decide (803 <= n) = false := by simp; omega
   have HT : Hid (T = false) := by rw [hT]; show _ = _; simp [h1]
   exact zq287
def macD (X : XS) (n : Int) : Nat × Bool :=
 if n = 768 then (X.c.mstatus, true) else if n = 769 then (1075056901, true) else if n = 770 then (X.c.medeleg, true) else if n = 771 then (X.c.mideleg, true) else if n = 772 then (X.c.mie, true) else if n = 773 then (X.c.mtvec, true) else if n = 774 then (X.c.mcen, true) else if n = 800 then (X.c.minh, true) else if n = 832 then (X.c.mscratch, true) else if n = 833 then (X.c.mepc, true) else if n = 834 then (X.c.mcause, true) else if n = 835 then (X.c.mtval, true) else if n = 836 then (penD X, true) else (0, decide (803 <= n /\ n <= 831))
theorem x_readMach (mb rb X) (hX : XOk X) (n : Int) (w) (hw : Hid (XAt w mb rb X)) :
 CK 305 #[.pointer (some ⟨mb, 0, none⟩), .int .i64 n] (.tuple #[.int .i64 ((macD X n).1 : Nat), .bool (macD X n).2]) w := by
 by_cases h768 : n = 768
 . subst h768; exact x_readMach_768 mb rb X hX w hw
 by_cases h769 : n = 769
 . subst h769; exact x_readMach_769 mb rb X hX w hw
 by_cases h770 : n = 770
 . subst h770; exact x_readMach_770 mb rb X hX w hw
 by_cases h771 : n = 771
 . subst h771; exact x_readMach_771 mb rb X hX w hw
 by_cases h772 : n = 772
 . subst h772; exact x_readMach_772 mb rb X hX w hw
 by_cases h773 : n = 773
 . subst h773; exact x_readMach_773 mb rb X hX w hw
 by_cases h774 : n = 774
 . subst h774; exact x_readMach_774 mb rb X hX w hw
 by_cases h800 : n = 800
 . subst h800; exact x_readMach_800 mb rb X hX w hw
 by_cases h832 : n = 832
 . subst h832; exact x_readMach_832 mb rb X hX w hw
 by_cases h833 : n = 833
 . subst h833; exact x_readMach_833 mb rb X hX w hw
 by_cases h834 : n = 834
 . subst h834; exact x_readMach_834 mb rb X hX w hw
 by_cases h835 : n = 835
 . subst h835; exact x_readMach_835 mb rb X hX w hw
 by_cases h836 : n = 836
 . subst h836; exact x_readMach_836 mb rb X hX w hw
 rw [show macD X n = (0, decide (803 <= n /\ n <= 831)) by unfold macD; simp [h768, h769, h770, h771, h772, h773, h774, h800, h832, h833, h834, h835, h836]]
 exact x_readMach_no mb rb X n (by simp [h768]) (by simp [h769]) (by simp [h770]) (by simp [h771]) (by simp [h772]) (by simp [h773]) (by simp [h774]) (by simp [h800]) (by simp [h832]) (by simp [h833]) (by simp [h834]) (by simp [h835]) (by simp [h836]) w hw
def cnV (X : XS) (n : Nat) : Nat × Nat := if n % 32 = 0 then (X.c.cyc, X.c.cych) else if n % 32 = 1 then (X.b.time, X.b.timeh) else if n % 32 = 2 then (X.c.ret, X.c.reth) else (0, 0)
def cntD (X : XS) (n : Nat) : Nat × Bool :=
 if 32 <= n % 256 - (if 128 <= n % 256 then 128 else 0) then (0, false) else if n % 32 = 1 /\ n < 3072 then (0, false) else if 128 <= n % 256 then ((cnV X n).2, true) else ((cnV X n).1, true)
theorem x_readCounter (mb rb : Nat) (X : XS) (n : Nat) (h0 : 2816 <= n) (h1 : n <= 3327) (w) (hw : Hid (XAt w mb rb X)) :
 CK 306 #[.pointer (some ⟨mb, 0, none⟩), .int .i64 n] (.tuple #[.int .i64 ((cntD X n).1 : Nat), .bool (cntD X n).2]) w := by
 have hlt := hw.out.lt
 have hlt' : ¬ mb = w.heap.size := by omega
 have c57 := hw.out.c57
 have c58 := hw.out.c58
 have c59 := hw.out.c59
 have c60 := hw.out.c60
 have c62 := hw.out.c62
 have c63 := hw.out.c63
 obtain ⟨r, hr⟩ := zn1 (n % 256)
 obtain ⟨k, hk⟩ := zn1 (n % 32)
 have er : (n : Int) % 256 = (r : Int) := by omega
 have ek : (n : Int) % 32 = (k : Int) := by omega
 have hrl : r < 256 := by omega
 have hkl : k < 32 := by omega
 unfold cntD cnV
 rw [<- hr, <- hk]
 clear hr hk hw
 by_cases hh : 128 <= r
 . have qh : decide ((128 : Int) <= r) = true := by simp; omega
   have qh' : decide (128 <= r) = true := by simp; omega
   rw [if_pos hh]
   by_cases ht : 32 <= r - 128
   . rw [if_pos ht]
     have qt : decide ((32 : Int) <= (r : Int) - 128) = true := by simp; omega
     exact zq288
   . rw [if_neg ht]
     have qt : decide ((32 : Int) <= (r : Int) - 128) = false := by simp; omega
     clear ht
     by_cases k0 : k = 0
     . subst k0
       rw [if_neg (by omega), if_pos hh, if_pos rfl]
       exact zq290
     by_cases k1 : k = 1
     . subst k1
       by_cases h3 : n < 3072
       . exact zq291
       . rw [if_neg (fun h => h3 h.2), if_pos hh, if_neg (by omega), if_pos rfl]
         exact zq292
     by_cases k2 : k = 2
     . subst k2
       rw [if_neg (by omega), if_pos hh, if_neg (by omega), if_neg (by omega), if_pos rfl]
       exact zq290
     rw [if_neg (by omega), if_pos hh, if_neg k0, if_neg k1, if_neg k2]
     exact zq289
 . have qh : decide ((128 : Int) <= r) = false := by simp; omega
   have qh' : decide (128 <= r) = false := by simp; omega
   rw [if_neg hh]
   by_cases ht : 32 <= r - 0
   . rw [if_pos ht]
     have qt : decide ((32 : Int) <= (r : Int)) = true := by simp; omega
     have qt' : decide (32 <= r) = true := by simp; omega
     exact zq288
   . rw [if_neg ht]
     have qt : decide ((32 : Int) <= (r : Int)) = false := by simp; omega
     have qt' : decide (32 <= r) = false := by simp; omega
     clear ht
     by_cases k0 : k = 0
     . subst k0
       rw [if_neg (by omega), if_neg hh, if_pos rfl]
       exact zq290
     by_cases k1 : k = 1
     . subst k1
       by_cases h3 : n < 3072
       . exact zq291
       . rw [if_neg (fun h => h3 h.2), if_neg hh, if_neg (by omega), if_pos rfl]
         exact zq292
     by_cases k2 : k = 2
     . subst k2
       rw [if_neg (by omega), if_neg hh, if_neg (by omega), if_neg (by omega), if_pos rfl]
       exact zq290
     rw [if_neg (by omega), if_neg hh, if_neg k0, if_neg k1, if_neg k2]
     exact zq289
def rcsD (X : XS) (n : Int) : Nat × Bool :=
 if 256 <= n /\ n <= 511 then supD X n else if 768 <= n /\ n <= 1023 then macD X n else if 2816 <= n /\ n <= 3327 then cntD X n.toNat else (0, decide (3857 <= n /\ n <= 3860))
theorem x_readCsr (mb rb X) (hX : XOk X) (n : Int) (w) (hw : Hid (XAt w mb rb X)) :
 CK 217 #[.pointer (some ⟨mb, 0, none⟩), .int .i64 n] (.tuple #[.int .i64 ((rcsD X n).1 : Nat), .bool (rcsD X n).2]) w := by
 have RS := hide1 (x_readSuper mb rb X hX n w hw)
 have RM := hide1 (x_readMach mb rb X hX n w hw)
 have RC : Hid (2816 <= n /\ n <= 3327 -> CK 306 #[.pointer (some ⟨mb, 0, none⟩), .int .i64 n] (.tuple #[.int .i64 ((cntD X n.toNat).1 : Nat), .bool (cntD X n.toNat).2]) w) := hide1 (fun h => by
  have := x_readCounter mb rb X n.toNat (by omega) (by omega) w hw
  rw [show ((n.toNat : Nat) : Int) = n by omega] at this
  exact this)
 unfold rcsD
 obtain ⟨⟨sv, sb⟩, hS⟩ : ∃ s, s = supD X n := ⟨_, rfl⟩
 obtain ⟨⟨mv, mbb⟩, hM⟩ : ∃ s, s = macD X n := ⟨_, rfl⟩
 obtain ⟨⟨cv, cb⟩, hC⟩ : ∃ s, s = cntD X n.toNat := ⟨_, rfl⟩
 rw [<- hS] at RS |-
 rw [<- hM] at RM |-
 simp only [<- hC] at RC |-
 clear hS hM hC hX hw
 by_cases h1 : 256 <= n /\ n <= 511
 . rw [if_pos h1]
   obtain ⟨a1, a2⟩ := h1
   have q1 : decide (256 <= n) = true := by simp [a1]
   have q2 : decide (n <= 511) = true := by simp [a2]
   go_enter func217, ntmps217
   go_wp2_with (go_at_call 304; refine RS.out.mono ?_; rintro o w1 ⟨rfl, hk1⟩)
   exact zq293
 rw [if_neg h1]
 by_cases h2 : 768 <= n /\ n <= 1023
 . rw [if_pos h2]
   obtain ⟨a1, a2⟩ := h2
   have q1 : decide (256 <= n) = true := by simp; omega
   have q2 : decide (n <= 511) = false := by simp; omega
   have q3 : decide (768 <= n) = true := by simp [a1]
   have q4 : decide (n <= 1023) = true := by simp [a2]
   clear h1
   go_enter func217, ntmps217
   go_wp2_with (go_at_call 305; refine RM.out.mono ?_; rintro o w1 ⟨rfl, hk1⟩)
   exact zq293
 rw [if_neg h2]
 by_cases h3 : 2816 <= n /\ n <= 3327
 . rw [if_pos h3]
   have RC2 := hide1 (RC.out h3)
   obtain ⟨a1, a2⟩ := h3
   have q1 : decide (256 <= n) = true := by simp; omega
   have q2 : decide (n <= 511) = false := by simp; omega
   have q3 : decide (768 <= n) = true := by simp; omega
   have q4 : decide (n <= 1023) = false := by simp; omega
   have q5 : decide (2816 <= n) = true := by simp [a1]
   have q6 : decide (n <= 3327) = true := by simp [a2]
   clear h1 h2 RC
   go_enter func217, ntmps217
   go_wp2_with (go_at_call 306; refine RC2.out.mono ?_; rintro o w1 ⟨rfl, hk1⟩)
   exact zq293
 rw [if_neg h3]
 obtain ⟨T, hT⟩ := zn1 (decide (3857 <= n /\ n <= 3860))
 dsimp only
 rw [<- hT]
 have HT := hide1 hT
 clear RS RM RC hT
 go_enter func217, ntmps217
 go_wp2_with fail
 all_goals first
  | (exfalso; omega)
  | (go_ret2; refine ⟨?_, Kept.refl _ _⟩; rw [HT.out]; simp_all <;> try first | omega | (rw [Bool.eq_iff_iff]; simp; omega))
end
end Go.Proofs.YtmlgonbhoknoiabGreatDoor
