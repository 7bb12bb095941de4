import Derived.Test.YtmlgonbhoknoiabGreatDoorXAV
import Derived.Test.YtmlgonbhoknoiabGreatDoorXAW
set_option maxHeartbeats 8000000
set_option linter.all false
namespace Go.Proofs.YtmlgonbhoknoiabGreatDoor
open Go.RowKit Go.Proofs.Tryz
section
attribute [local go_sem ↓] Go.wp_at_zero Go.wp_at_succ
set_option maxRecDepth 100000 in
theorem k_has (v i : Int) (w : World) : Calls prog 105 #[.int .i64 v, .int .i64 i] w fun o w' => BoolR o /\ w' = w := by
 go_enter func105, ntmps105
 exact zq388
set_option maxRecDepth 100000 in
theorem k_hasBoth (i : Int) (fb : Nat) (f : Fc) (w : World) (hf : Hid (BoxF w fb f.l)) : Calls prog 146 #[.pointer (some ⟨fb, 0, none⟩), .int .i64 i] w fun o w' => BoolR o /\ Kept [] w w' := by
 have c3 := hf.out.cell 3 _ rfl
 have c4 := hf.out.cell 4 _ rfl
 have cl := hf.out.lt
 go_enter func146, ntmps146
 go_upto_region 1 with fail
 exact zq391
set_option maxRecDepth 100000 in
theorem k_takes (i : Int) (fb : Nat) (f : Fc) (w : World) (hf : Hid (BoxF w fb f.l)) : Calls prog 103 #[.pointer (some ⟨fb, 0, none⟩), .int .i64 i] w fun o w' => BoolR o /\ Kept [] w w' := by
 have HB := hide1 (k_hasBoth i fb f w hf)
 go_enter func103, ntmps103
 go_wp2_with fail
 refine HB.out.mono ?_
 rintro o w1 ⟨⟨r, rfl⟩, hk⟩
 have hf1 := hide1 (hf.out.kept hk)
 have K1 := hide1 hk
 clear hk HB hf
 have c0 := hf1.out.cell 0 _ rfl
 have c2 := hf1.out.cell 2 _ rfl
 have c5 := hf1.out.cell 5 _ rfl
 have cl := hf1.out.lt
 go_wp2_with fail
 all_goals
  go_ret
  exact ⟨⟨_, rfl⟩, K1.out⟩
set_option maxRecDepth 100000 in
theorem k_rank (i : Int) (fb : Nat) (f : Fc) (w : World) (hf : Hid (BoxF w fb f.l)) : Calls prog 104 #[.pointer (some ⟨fb, 0, none⟩), .int .i64 i] w fun o w' => (∃ v : Int, o = .returned (.int .i64 v)) /\ w' = w := by
 have c5 := hf.out.cell 5 _ rfl
 have cl := hf.out.lt
 go_enter func104, ntmps104
 exact zq388
set_option maxRecDepth 100000 in
theorem k_paged (fb : Nat) (f : Fc) (w : World) (hf : Hid (BoxF w fb f.l)) : Calls prog 65 #[.pointer (some ⟨fb, 0, none⟩)] w fun o w' => BoolR o /\ w' = w := by
 have c0 := hf.out.cell 0 _ rfl
 have c7 := hf.out.cell 7 _ rfl
 have cl := hf.out.lt
 go_enter func65, ntmps65
 exact zq388
theorem w64 (a : Nat) (h : a < 4294967296) : wrap64 (a : Int) = (a : Int) := by
 unfold wrap64
 omega
theorem le_val (a b c d : Nat) (ha : a < 256) (hb : b < 256) (hc : c < 256) (hd : d < 256) : ∃ v : Nat, v < 4294967296 /\ bits .or .i64 (bits .or .i64 (bits .or .i64 (wrap64 a) (wrap64 (wrap64 b * 256))) (wrap64 (wrap64 c * 65536))) (wrap64 (wrap64 d * 16777216)) = (v : Int) := by
 have e1 : wrap64 (wrap64 (b : Int) * 256) = ((b * 256 : Nat) : Int) := by rw [w64 b (by omega), <- w64 (b * 256) (by omega)]; simp
 have e2 : wrap64 (wrap64 (c : Int) * 65536) = ((c * 65536 : Nat) : Int) := by rw [w64 c (by omega), <- w64 (c * 65536) (by omega)]; simp
 have e3 : wrap64 (wrap64 (d : Int) * 16777216) = ((d * 16777216 : Nat) : Int) := by rw [w64 d (by omega), <- w64 (d * 16777216) (by omega)]; simp
 have q1 : a ||| b * 256 < 2 ^ 32 := Nat.or_lt_two_pow (by omega) (by omega)
 have q2 : a ||| b * 256 ||| c * 65536 < 2 ^ 32 := Nat.or_lt_two_pow q1 (by omega)
 have q3 : a ||| b * 256 ||| c * 65536 ||| d * 16777216 < 2 ^ 32 := Nat.or_lt_two_pow q2 (by omega)
 refine ⟨_, q3, ?_⟩
 rw [e1, e2, e3, w64 a (by omega), b_or _ _ (by omega) (by omega), b_or _ _ (by omega) (by omega), b_or _ _ (by omega) (by omega)]
set_option maxRecDepth 100000 in
theorem k_leB (s : ByteArray) (n : Nat) (h : n + 4 <= s.size) (hs : s.size <= 100000) (w : World) : Calls prog 145 #[.string s, .int .i64 n] w fun o w' => (∃ v : Nat, v < 4294967296 /\ o = .returned (.int .i64 v)) /\ Kept [] w w' := by
 have i0 : n < s.size := by omega
 have i1 : n + 1 < s.size := by omega
 have i2 : n + 2 < s.size := by omega
 have i3 : n + 3 < s.size := by omega
 have w1 : IntKind.i64.wrap ((n : Int) + 1) = (n : Int) + 1 := zq116
 have w2 : IntKind.i64.wrap ((n : Int) + 2) = (n : Int) + 2 := zq116
 have w3 : IntKind.i64.wrap ((n : Int) + 3) = (n : Int) + 3 := zq116
 have j0 : (0 : Int) <= (n : Int) /\ (n : Int) < (s.size : Int) := by omega
 have j1 : (0 : Int) <= (n : Int) + 1 /\ (n : Int) + 1 < (s.size : Int) := by omega
 have j2 : (0 : Int) <= (n : Int) + 2 /\ (n : Int) + 2 < (s.size : Int) := by omega
 have j3 : (0 : Int) <= (n : Int) + 3 /\ (n : Int) + 3 < (s.size : Int) := by omega
 go_enter func145, ntmps145
 go_upto_region 1 with fail
 go_region
 all_goals
  go_wp2_with fail
  go_ret
  refine ⟨?_, (Kept.refl _ _).drew⟩
  obtain ⟨v, hv, e⟩ := le_val (s[n].toNat) (s[n + 1].toNat) (s[n + 2].toNat) (s[n + 3].toNat) (s[n].toNat_lt) (s[n + 1].toNat_lt) (s[n + 2].toNat_lt) (s[n + 3].toNat_lt)
  exact ⟨v, hv, congrArg (fun x => Ending.returned (Value.int .i64 x)) e⟩
def leW (a b c d : Nat) : Nat := a + 256 * (b + 256 * (c + 256 * d))
theorem le_exact (a b c d : Nat) (ha : a < 256) (hb : b < 256) (hc : c < 256) (hd : d < 256) : bits .or .i64 (bits .or .i64 (bits .or .i64 (wrap64 a) (wrap64 (wrap64 b * 256))) (wrap64 (wrap64 c * 65536))) (wrap64 (wrap64 d * 16777216)) = (leW a b c d : Int) := by
 have w1 : wrap64 (wrap64 (b : Int) * 256) = ((b * 2 ^ 8 : Nat) : Int) := by rw [w64 b (by omega), <- w64 (b * 2 ^ 8) (by omega)]; simp
 have w2 : wrap64 (wrap64 (c : Int) * 65536) = ((c * 2 ^ 16 : Nat) : Int) := by rw [w64 c (by omega), <- w64 (c * 2 ^ 16) (by omega)]; simp
 have w3 : wrap64 (wrap64 (d : Int) * 16777216) = ((d * 2 ^ 24 : Nat) : Int) := by rw [w64 d (by omega), <- w64 (d * 2 ^ 24) (by omega)]; simp
 have e1 := or_hi a b 8 (by omega) (by omega)
 have e2 := or_hi (a + b * 2 ^ 8) c 16 (by omega) (by omega)
 have e3 := or_hi (a + b * 2 ^ 8 + c * 2 ^ 16) d 24 (by omega) (by omega)
 rw [w1, w2, w3, w64 a (by omega), e1, e2, e3]
 unfold leW; omega
set_option maxRecDepth 100000 in
theorem k_leS (s : ByteArray) (h : 4 <= s.size) (hs : s.size <= 100000) (w : World) : CK 145 #[.string s, .int .i64 0] (.int .i64 (leW (s[0]'(by omega)).toNat (s[1]'(by omega)).toNat (s[2]'(by omega)).toNat (s[3]'(by omega)).toNat : Int)) w := by
 have i0 : 0 < s.size := by omega
 have i1 : 1 < s.size := by omega
 have i2 : 2 < s.size := by omega
 have i3 : 3 < s.size := by omega
 have j0 : (0 : Int) <= 0 /\ (0 : Int) < (s.size : Int) := by omega
 have j1 : (0 : Int) <= 1 /\ (1 : Int) < (s.size : Int) := by omega
 have j2 : (0 : Int) <= 2 /\ (2 : Int) < (s.size : Int) := by omega
 have j3 : (0 : Int) <= 3 /\ (3 : Int) < (s.size : Int) := by omega
 have EX := hide1 (le_exact s[0].toNat s[1].toNat s[2].toNat s[3].toNat s[0].toNat_lt s[1].toNat_lt s[2].toNat_lt s[3].toNat_lt)
 go_enter func145, ntmps145
 go_upto_region 1 with fail
 go_region
 all_goals
  go_wp2_with fail
  go_ret
  refine ⟨?_, (Kept.refl _ _).drew⟩
  exact congrArg (fun x => Ending.returned (Value.int .i64 x)) EX.out
theorem pk_bytes (r : List UInt8) (off : Nat) (h : off + 4 <= r.length) : ∃ a b c d : UInt8, pkB r off 4 = ⟨#[a, b, c, d]⟩ /\ leW a.toNat b.toNat c.toNat d.toNat = ldN ((r.drop off).take 4) := by
 obtain ⟨a, b, c, d, e⟩ : ∃ a b c d : UInt8, (r.drop off).take 4 = [a, b, c, d] := by
  have hl : ((r.drop off).take 4).length = 4 := by simp; omega
  match (r.drop off).take 4, hl with
  | [a, b, c, d], _ => exact ⟨a, b, c, d, rfl⟩
 refine ⟨a, b, c, d, ?_, ?_⟩
 . unfold pkB
   rw [e]
   simp [strOfNums]
 . rw [e]; unfold leW; simp [ldN]
theorem k_wordAtS (mb rb : Nat) (X : XS) (hX : XInv X) (off : Nat) (h : off + 4 <= X.b.ram.length) (v : Nat) (hv : ldN ((X.b.ram.drop off).take 4) = v) (w : World) (hw : XAt w mb rb X) : CK 97 #[.pointer (some ⟨mb, 0, none⟩), .int .i64 (off : Int)] (.int .i64 (v : Int)) w := by
 have P := hide1 (x_Peek mb rb X hX.ok off 4 h w (hide1 hw))
 obtain ⟨a, b, c, d, e1, e2⟩ := pk_bytes X.b.ram off h
 rw [e1] at P
 rw [hv] at e2
 have L := hide1 (fun W => k_leS ⟨#[a, b, c, d]⟩ (show 4 <= 4 by decide) (show 4 <= 100000 by decide) W)
 replace L : Hid (∀ W, CK 145 #[.string ⟨#[a, b, c, d]⟩, .int .i64 0] (.int .i64 ((leW a.toNat b.toNat c.toNat d.toNat : Nat) : Int)) W) := L
 rw [e2] at L
 clear e1 e2 hv hw
 go_enter func97, ntmps97
 go_wp2_with fail
 refine P.out.mono ?_
 rintro o w1 ⟨rfl, hw1⟩
 rw [hw1]
 clear hw1 P
 go_wp2_with fail
 refine (L.out _).mono ?_
 rintro o w2 ⟨rfl, hk2⟩
 have HK := hide1 hk2
 clear hk2 L
 go_wp2_with fail
 go_ret
 exact ⟨rfl, HK.out⟩
theorem k_csrS (mb rb X) (hX : XOk X) (i : Int) (w : World) (hw : XAt w mb rb X) : CK 95 #[.pointer (some ⟨mb, 0, none⟩), .int .i64 i] (.int .i64 ((xcsrE X i).1 : Nat)) w := by
 have R := hide1 (x_Csr mb rb X hX i w (hide1 hw))
 generalize (((xcsrE X i).1 : Nat) : Int) = a at R |-
 generalize (xcsrE X i).2 = b at R
 go_enter func95, ntmps95
 go_wp2_with fail
 refine R.out.mono ?_
 rintro o w1 ⟨rfl, hk⟩
 have K1 := hide1 hk
 clear hk R
 go_wp2_with fail
 go_ret
 exact ⟨rfl, K1.out⟩
end
end Go.Proofs.YtmlgonbhoknoiabGreatDoor
