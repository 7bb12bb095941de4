import Derived.Test.YtmlgonbhoknoiabGreatDoorYAA
set_option maxHeartbeats 8000000
set_option linter.all false
namespace Go.Proofs.YtmlgonbhoknoiabGreatDoor
open Go.RowKit Go.Proofs.Tryz
theorem wordN_wrap (z : Int) : wordN (wrap64 z) = wordN z := by unfold wordN wrap64; omega
def xquoD (a b : Int) : Int := if b = 0 then 4294967295 else wrap64 (a.tdiv b)
def xremD (a b : Int) : Int := if b = 0 then a else a.tmod b
theorem x_quotient (a b : Int) (w : World) :
 CS 337 #[.int .i64 a, .int .i64 b] (.int .i64 (xquoD a b)) w := by
 by_cases h : b = 0
 . subst h
   go_enter func337, ntmps337
   go_wp2_with fail
   go_ret
   exact ⟨ret_intE (by simp [xquoD]), rfl⟩
 . have q : (b == 0) = false := by simp [h]
   have HQ : Hid (xquoD a b = wrap64 (a.tdiv b)) := by show _ = _; simp [xquoD, h]
   go_enter func337, ntmps337
   exact zq213
theorem x_remainder (a b : Int) (w : World) :
 CS 338 #[.int .i64 a, .int .i64 b] (.int .i64 (xremD a b)) w := by
 by_cases h : b = 0
 . subst h
   go_enter func338, ntmps338
   go_wp2_with fail
   go_ret
   exact ⟨ret_intE (by simp [xremD]), rfl⟩
 . have q : (b == 0) = false := by simp [h]
   have HQ : Hid (xremD a b = a.tmod b) := by show _ = _; simp [xremD, h]
   go_enter func338, ntmps338
   exact zq213
theorem mul_bdX {x y X Y : Int} (h1 : -X <= x) (h2 : x <= X) (h3 : -Y <= y) (h4 : y <= Y) (hX : 0 <= X) (_hY : 0 <= Y) : -(X * Y) <= x * y /\ x * y <= X * Y := by
 have a1 : 0 <= (X - x) * (Y + y) := zq7
 have a2 : 0 <= (X + x) * (Y - y) := zq7
 have a3 : 0 <= (X - x) * (Y - y) := zq7
 have a4 : 0 <= (X + x) * (Y + y) := zq7
 have e1 : (X - x) * (Y + y) = X * Y + X * y - x * Y - x * y := by rw [Int.sub_mul, Int.mul_add, Int.mul_add]; omega
 have e2 : (X + x) * (Y - y) = X * Y - X * y + x * Y - x * y := by rw [Int.add_mul, Int.mul_sub, Int.mul_sub]; omega
 have e3 : (X - x) * (Y - y) = X * Y - X * y - x * Y + x * y := by rw [Int.sub_mul, Int.mul_sub, Int.mul_sub]; omega
 have e4 : (X + x) * (Y + y) = X * Y + X * y + x * Y + x * y := by rw [Int.add_mul, Int.mul_add, Int.mul_add]; omega
 omega
theorem and65535 (a : Int) : bits .and .i64 a 65535 = a % 65536 := and_mask a 16 (by decide)
theorem x_highWord (a b : Int) (h0 : -2147483648 <= a) (h1 : a < 4294967296) (h2 : -2147483648 <= b) (h3 : b < 4294967296) (w : World) :
 CS 336 #[.int .i64 a, .int .i64 b] (.int .i64 (wordN (a * b / 4294967296))) w := by
 have q1 := and65535 a
 obtain ⟨l, hl⟩ := zn1 (a % 65536)
 obtain ⟨h, hh⟩ := zn1 (a / 65536)
 have ea : a = h * 65536 + l := by omega
 have bl : 0 <= l /\ l <= 65535 := by omega
 have bh : -32768 <= h /\ h <= 65535 := by omega
 obtain ⟨p, hp⟩ := zn1 (h * b)
 obtain ⟨q, hq⟩ := zn1 (l * b)
 have bp := mul_bdX (x := h) (y := b) (X := 65536) (Y := 4294967296) (by omega) (by omega) (by omega) (by omega) (by omega) (by omega)
 have bq := mul_bdX (x := l) (y := b) (X := 65536) (Y := 4294967296) (by omega) (by omega) (by omega) (by omega) (by omega) (by omega)
 have eab : a * b = p * 65536 + q := by rw [ea, Int.add_mul, hp, hq, Int.mul_assoc, Int.mul_comm 65536 b, <- Int.mul_assoc]
 rw [<- hp] at bp
 rw [<- hq] at bq
 rw [<- hl] at q1
 have R : Hid (wordN (a * b / 4294967296) = wordN ((p + q / 65536) / 65536)) := by
  show _ = _
  rw [eab]; congr 1; omega
 have P1 : wrap64 (a / 65536 * b) = p := by rw [<- hh, <- hp]; unfold wrap64; omega
 have P2 : wrap64 (l * b) = q := by rw [<- hq]; unfold wrap64; omega
 have P3 : wrap64 (p + q / 65536) = p + q / 65536 := by unfold wrap64; omega
 have b1 := bp.1; have b2 := bp.2; have b3 := bq.1; have b4 := bq.2
 clear bp bq eab ea hh hp hq hl bl bh
 go_enter func336, ntmps336
 go_wp2_with (first | (go_at_call 135; refine (x_word _ _).mono ?_; rintro e w' ⟨rfl, rfl⟩))
 go_ret
 exact ⟨ret_intE (by rw [R.out] <;> rfl), rfl⟩
theorem u_add (a b : Nat) : (wordN ((a : Int) + b) : Int) = alu_add a b := by unfold alu_add wordN; omega
theorem u_sub (a b : Nat) : (wordN ((a : Int) - b) : Int) = alu_sub a b := rfl
theorem u_bool (p : Prop) [Decidable p] : (((decide p).toNat : Nat) : Int) = ((if p then 1 else 0 : Nat) : Int) := by by_cases h : p <;> simp [h]
theorem u_sll (a b r : Nat) (hr : r = b % 32) : (wordN ((a : Int) * 2 ^ r) : Int) = alu_sll a b := by
 have e : (a : Int) * 2 ^ r = ((a * 2 ^ r : Nat) : Int) := by simp
 rw [e, wordN_nat, hr]; rfl
theorem u_mul (a b : Nat) (ha : a < 4294967296) (hb : b < 4294967296) : (wordN (sgn a * sgn b) : Int) = alu_mul a b := by
 have e1 : ∃ i, sgn a = a - i * 4294967296 := by
  unfold sgn; split
  . exact ⟨1, by omega⟩
  . exact ⟨0, by omega⟩
 have e2 : ∃ i, sgn b = b - i * 4294967296 := by
  unfold sgn; split
  . exact ⟨1, by omega⟩
  . exact ⟨0, by omega⟩
 obtain ⟨i, h1⟩ := e1
 obtain ⟨j, h2⟩ := e2
 have e : sgn a * sgn b = ((a * b : Nat) : Int) + (-(a * j) - i * b + i * j * 4294967296) * 4294967296 := by
  rw [h1, h2, Int.natCast_mul]
  generalize (a : Int) = x
  generalize (b : Int) = y
  have : (x - i * 4294967296) * (y - j * 4294967296) = x * y - x * j * 4294967296 - i * y * 4294967296 + i * j * 4294967296 * 4294967296 := by
   rw [Int.sub_mul, Int.mul_sub, Int.mul_sub, <- Int.mul_assoc x j, Int.mul_right_comm i 4294967296 y, <- Int.mul_assoc (i * 4294967296) j, Int.mul_right_comm i 4294967296 j]; omega
  rw [this, Int.add_mul, Int.sub_mul, Int.neg_mul]; omega
 rw [e]
 unfold wordN alu_mul
 rw [Int.add_mul_emod_self_right]
 omega
theorem u_mulhu (a b : Nat) (ha : a < 4294967296) (hb : b < 4294967296) : (wordN ((a : Int) * b / 4294967296) : Int) = alu_mulhu a b := by
 have h : a * b <= 4294967295 * 4294967295 := Nat.mul_le_mul (by omega) (by omega)
 have e : (a : Int) * b = ((a * b : Nat) : Int) := by simp
 rw [e]; unfold wordN alu_mulhu
 generalize a * b = z at *
 omega
theorem u_div (a b : Nat) (_ha : a < 4294967296) (hb : b < 4294967296) : (wordN (xquoD (sgn a) (sgn b)) : Int) = alu_div a b := by
 unfold xquoD alu_div
 have := sgn_zero b hb
 by_cases h : b = 0
 . rw [if_pos (this.2 h), if_pos h]; rfl
 . rw [if_neg (fun e => h (this.1 e)), if_neg h, wordN_wrap]
theorem u_divu (a b : Nat) (ha : a < 4294967296) (_hb : b < 4294967296) : (wordN (xquoD a b) : Int) = alu_divu a b := by
 unfold xquoD alu_divu
 by_cases h : b = 0
 . subst h; rfl
 . rw [if_neg (by omega), if_neg h, wordN_wrap, ndiv, wordN_of]
   exact Nat.lt_of_le_of_lt (Nat.div_le_self _ _) ha
theorem u_rem (a b : Nat) (ha : a < 4294967296) (hb : b < 4294967296) : (wordN (xremD (sgn a) (sgn b)) : Int) = alu_rem a b := by
 unfold xremD alu_rem
 have := sgn_zero b hb
 by_cases h : b = 0
 . rw [if_pos (this.2 h), if_pos h]; unfold wordN sgn; split <;> omega
 . rw [if_neg (fun e => h (this.1 e)), if_neg h]
   congr 2
   have := Int.tmod_add_tdiv_mul (sgn a) (sgn b)
   omega
theorem u_remu (a b : Nat) (_ha : a < 4294967296) (_hb : b < 4294967296) : xremD a b = alu_remu a b := by
 unfold xremD alu_remu
 by_cases h : b = 0
 . subst h; rfl
 . rw [if_neg (by omega), if_neg h, Int.tmod_eq_emod_of_nonneg (by omega)]; simp
theorem x_reckon_add (a b : Nat) (ha : a < 4294967296) (hb : b < 4294967296) (w : World) :
 CS 264 #[.int .i64 28, .int .i64 a, .int .i64 b] (.int .i64 (alu_add a b)) w := zq214
theorem x_reckon_sub (a b : Nat) (ha : a < 4294967296) (hb : b < 4294967296) (w : World) :
 CS 264 #[.int .i64 29, .int .i64 a, .int .i64 b] (.int .i64 (alu_sub a b)) w := zq214
theorem x_reckon_sll (a b : Nat) (ha : a < 4294967296) (hb : b < 4294967296) (w : World) :
 CS 264 #[.int .i64 30, .int .i64 a, .int .i64 b] (.int .i64 (alu_sll a b)) w := by
 have hA := and31 b
 have hr : b % 32 < 32 := by omega
 obtain ⟨r, hr2⟩ := zn1 (b % 32)
 rw [<- hr2] at hA hr
 have HR := hide1 hr2
 clear hr2
 exact zq214
theorem x_reckon_slt (a b : Nat) (ha : a < 4294967296) (hb : b < 4294967296) (w : World) :
 CS 264 #[.int .i64 31, .int .i64 a, .int .i64 b] (.int .i64 (alu_slt a b)) w := zq214
theorem x_reckon_sltu (a b : Nat) (ha : a < 4294967296) (hb : b < 4294967296) (w : World) :
 CS 264 #[.int .i64 32, .int .i64 a, .int .i64 b] (.int .i64 (alu_sltu a b)) w := zq214
theorem x_reckon_xor (a b : Nat) (ha : a < 4294967296) (hb : b < 4294967296) (w : World) :
 CS 264 #[.int .i64 33, .int .i64 a, .int .i64 b] (.int .i64 (alu_xor a b)) w := by
 have hX := b_xor a b (by omega) (by omega)
 exact zq214
theorem x_reckon_srl (a b : Nat) (ha : a < 4294967296) (hb : b < 4294967296) (w : World) :
 CS 264 #[.int .i64 34, .int .i64 a, .int .i64 b] (.int .i64 (alu_srl a b)) w := by
 have hA := and31 b
 have hr : b % 32 < 32 := by omega
 obtain ⟨r, hr2⟩ := zn1 (b % 32)
 rw [<- hr2] at hA hr
 have HR := hide1 hr2
 clear hr2
 have hS := shr_min (a : Int) r hr
 exact zq214
theorem x_reckon_sra (a b : Nat) (ha : a < 4294967296) (hb : b < 4294967296) (w : World) :
 CS 264 #[.int .i64 35, .int .i64 a, .int .i64 b] (.int .i64 (alu_sra a b)) w := by
 have hA := and31 b
 have hr : b % 32 < 32 := by omega
 obtain ⟨r, hr2⟩ := zn1 (b % 32)
 rw [<- hr2] at hA hr
 have HR := hide1 hr2
 clear hr2
 have hS := shr_min (sgn a) r hr
 exact zq214
theorem x_reckon_or (a b : Nat) (ha : a < 4294967296) (hb : b < 4294967296) (w : World) :
 CS 264 #[.int .i64 36, .int .i64 a, .int .i64 b] (.int .i64 (alu_or a b)) w := by
 have hX := b_or a b (by omega) (by omega)
 exact zq214
theorem x_reckon_and (a b : Nat) (ha : a < 4294967296) (hb : b < 4294967296) (w : World) :
 CS 264 #[.int .i64 37, .int .i64 a, .int .i64 b] (.int .i64 (alu_and a b)) w := by
 have hX := b_and a b (by omega) (by omega)
 exact zq214
theorem x_multiply_mul (a b : Nat) (ha : a < 4294967296) (hb : b < 4294967296) (w : World) :
 CS 266 #[.int .i64 42, .int .i64 a, .int .i64 b] (.int .i64 (alu_mul a b)) w := zq215
theorem x_multiply_mulh (a b : Nat) (ha : a < 4294967296) (hb : b < 4294967296) (w : World) :
 CS 266 #[.int .i64 43, .int .i64 a, .int .i64 b] (.int .i64 (alu_mulh a b)) w := zq215
theorem x_multiply_mulhsu (a b : Nat) (ha : a < 4294967296) (hb : b < 4294967296) (w : World) :
 CS 266 #[.int .i64 44, .int .i64 a, .int .i64 b] (.int .i64 (alu_mulhsu a b)) w := zq215
theorem x_multiply_mulhu (a b : Nat) (ha : a < 4294967296) (hb : b < 4294967296) (w : World) :
 CS 266 #[.int .i64 45, .int .i64 a, .int .i64 b] (.int .i64 (alu_mulhu a b)) w := zq216
theorem x_multiply_div (a b : Nat) (ha : a < 4294967296) (hb : b < 4294967296) (w : World) :
 CS 266 #[.int .i64 46, .int .i64 a, .int .i64 b] (.int .i64 (alu_div a b)) w := zq216
theorem x_multiply_divu (a b : Nat) (ha : a < 4294967296) (hb : b < 4294967296) (w : World) :
 CS 266 #[.int .i64 47, .int .i64 a, .int .i64 b] (.int .i64 (alu_divu a b)) w := zq216
theorem x_multiply_rem (a b : Nat) (ha : a < 4294967296) (hb : b < 4294967296) (w : World) :
 CS 266 #[.int .i64 48, .int .i64 a, .int .i64 b] (.int .i64 (alu_rem a b)) w := zq216
theorem x_multiply_remu (a b : Nat) (ha : a < 4294967296) (hb : b < 4294967296) (w : World) :
 CS 266 #[.int .i64 49, .int .i64 a, .int .i64 b] (.int .i64 (alu_remu a b)) w := zq216
theorem x_reckon (op : Int) (h0 : 28 <= op) (h1 : op <= 37) (a b : Nat) (ha : a < 4294967296) (hb : b < 4294967296) (w : World) :
 CS 264 #[.int .i64 op, .int .i64 a, .int .i64 b] (.int .i64 (alu op a b)) w := by
 have h : op = 28 \/ op = 29 \/ op = 30 \/ op = 31 \/ op = 32 \/ op = 33 \/ op = 34 \/ op = 35 \/ op = 36 \/ op = 37 := by omega
 rcases h with rfl | rfl | rfl | rfl | rfl | rfl | rfl | rfl | rfl | rfl
 . exact x_reckon_add a b ha hb w
 . exact x_reckon_sub a b ha hb w
 . exact x_reckon_sll a b ha hb w
 . exact x_reckon_slt a b ha hb w
 . exact x_reckon_sltu a b ha hb w
 . exact x_reckon_xor a b ha hb w
 . exact x_reckon_srl a b ha hb w
 . exact x_reckon_sra a b ha hb w
 . exact x_reckon_or a b ha hb w
 . exact x_reckon_and a b ha hb w
theorem x_multiply (op : Int) (h0 : 42 <= op) (h1 : op <= 49) (a b : Nat) (ha : a < 4294967296) (hb : b < 4294967296) (w : World) :
 CS 266 #[.int .i64 op, .int .i64 a, .int .i64 b] (.int .i64 (alu op a b)) w := by
 have h : op = 42 \/ op = 43 \/ op = 44 \/ op = 45 \/ op = 46 \/ op = 47 \/ op = 48 \/ op = 49 := by omega
 rcases h with rfl | rfl | rfl | rfl | rfl | rfl | rfl | rfl
 . exact x_multiply_mul a b ha hb w
 . exact x_multiply_mulh a b ha hb w
 . exact x_multiply_mulhsu a b ha hb w
 . exact x_multiply_mulhu a b ha hb w
 . exact x_multiply_div a b ha hb w
 . exact x_multiply_divu a b ha hb w
 . exact x_multiply_rem a b ha hb w
 . exact x_multiply_remu a b ha hb w
theorem alu_regD (op : Int) (h0 : 19 <= op) (h1 : op <= 27) (a b : Nat) : alu (xregD op) a b = alu op a b /\ 28 <= xregD op /\ xregD op <= 37 := by
 have h : op = 19 \/ op = 20 \/ op = 21 \/ op = 22 \/ op = 23 \/ op = 24 \/ op = 25 \/ op = 26 \/ op = 27 := by omega
 rcases h with rfl | rfl | rfl | rfl | rfl | rfl | rfl | rfl | rfl <;> exact ⟨rfl, by decide, by decide⟩
def xaccD (op : Int) : Int := if op = 11 \/ op = 14 \/ op = 16 then 1 else if op = 12 \/ op = 15 \/ op = 17 then 2 else 4
theorem x_accessSize (op : Int) (w : World) :
 CS 268 #[.int .i64 op] (.int .i64 (xaccD op)) w := by
 obtain ⟨T, hT⟩ := zn1 (xaccD op)
 rw [<- hT]
 unfold xaccD at hT
 have HT := hide1 hT
 clear hT
 go_enter func268, ntmps268
 exact zq211
def xapuD (op : Int) : Int := if op = 50 then 1 else 2
theorem x_atomicPurpose (op : Int) (w : World) :
 CS 272 #[.int .i64 op] (.int .i64 (xapuD op)) w := by
 obtain ⟨T, hT⟩ := zn1 (xapuD op)
 rw [<- hT]
 unfold xapuD at hT
 have HT := hide1 hT
 clear hT
 go_enter func272, ntmps272
 exact zq211
def xalgD (k : Int) : Int := if k = 1 then 4 else 6
theorem x_alignFault (k : Int) (w : World) :
 CS 273 #[.int .i64 k] (.int .i64 (xalgD k)) w := by
 obtain ⟨T, hT⟩ := zn1 (xalgD k)
 rw [<- hT]
 unfold xalgD at hT
 have HT := hide1 hT
 clear hT
 go_enter func273, ntmps273
 exact zq211
def xfauD (fault kind : Int) : Int := if kind = 0 then (if fault = 1 then 12 else 1) else if kind = 1 then (if fault = 1 then 13 else 5) else (if fault = 1 then 15 else 7)
theorem x_faultCause (f k : Int) (w : World) :
 CS 274 #[.int .i64 f, .int .i64 k] (.int .i64 (xfauD f k)) w := by
 obtain ⟨T, hT⟩ := zn1 (xfauD f k)
 rw [<- hT]
 unfold xfauD at hT
 have HT := hide1 hT
 clear hT
 go_enter func274, ntmps274
 go_wp2_with (go_at_call 347; refine (x_choose _ _ _ _).mono ?_; rintro e w' ⟨rfl, rfl⟩)
 all_goals (go_ret; refine ⟨ret_intE ?_, rfl⟩; rw [HT.out]; simp_all <;> try (by_cases hf : f = 1 <;> simp [hf]))
theorem x_isTimer (a n : Int) (ha0 : -1099511627776 <= a) (ha1 : a <= 1099511627776) (w : World) :
 CS 340 #[.int .i64 a, .int .i64 n] (.bool (decide (n = 4 /\ (a = 33554432 \/ a = 33570816 \/ a = 33570820 \/ a = 33603576 \/ a = 33603580)))) w := by
 obtain ⟨T, hT⟩ := zn1 (decide (n = 4 /\ (a = 33554432 \/ a = 33570816 \/ a = 33570820 \/ a = 33603576 \/ a = 33603580)))
 rw [<- hT]
 have HT := hide1 hT
 clear hT
 go_enter func340, ntmps340
 exact zq217
theorem x_isPort (a n : Int) (ha0 : -1099511627776 <= a) (ha1 : a <= 1099511627776) (w : World) :
 CS 342 #[.int .i64 a, .int .i64 n] (.bool (decide (n = 1 /\ (a = 268435456 \/ a = 268435457 \/ a = 268435458 \/ a = 268435461 \/ a = 268435463)))) w := by
 obtain ⟨T, hT⟩ := zn1 (decide (n = 1 /\ (a = 268435456 \/ a = 268435457 \/ a = 268435458 \/ a = 268435461 \/ a = 268435463)))
 rw [<- hT]
 have HT := hide1 hT
 clear hT
 go_enter func342, ntmps342
 exact zq217
theorem x_pageAddress (e : Nat) (he : e < 4294967296) (w : World) :
 CS 335 #[.int .i64 e] (.int .i64 ((e / 1024 * 4096 : Nat) : Int)) w := by
 go_enter func335, ntmps335
 go_wp2_with fail
 go_ret
 exact ⟨ret_intE (by simp), rfl⟩
theorem x_isBranch (op : Int) (w : World) :
 CS 192 #[.int .i64 op] (.bool (decide (5 <= op /\ op <= 10))) w := by
 obtain ⟨T, hT⟩ := zn1 (decide (5 <= op /\ op <= 10))
 rw [<- hT]
 have HT := hide1 hT
 clear hT
 go_enter func192, ntmps192
 exact zq217
def xresD (op : Int) : Bool := decide ((1 <= op /\ op <= 4) \/ (19 <= op /\ op <= 37) \/ (42 <= op /\ op <= 49))
theorem x_hasResult (op : Int) (w : World) :
 CS 195 #[.int .i64 op] (.bool (xresD op)) w := by
 obtain ⟨T, hT⟩ := zn1 (xresD op)
 rw [<- hT]
 unfold xresD at hT
 have HT := hide1 hT
 clear hT
 go_enter func195, ntmps195
 exact zq217
def xforD (op : Int) : Int := if op = 68 then 4194304 else if op = 69 then 2097152 else 1048576
theorem x_forbidding (op : Int) (w : World) :
 CS 281 #[.int .i64 op] (.int .i64 (xforD op)) w := by
 obtain ⟨T, hT⟩ := zn1 (xforD op)
 rw [<- hT]
 unfold xforD at hT
 have HT := hide1 hT
 clear hT
 go_enter func281, ntmps281
 exact zq211
def xchgD (op : Int) (was v : Nat) : Nat := if op = 62 \/ op = 65 then was ||| v else if op = 63 \/ op = 66 then wout was v else v
theorem x_changed (op : Int) (was v : Nat) (h1 : was < 4294967296) (h2 : v < 4294967296) (w : World) :
 CS 280 #[.int .i64 op, .int .i64 was, .int .i64 v] (.int .i64 (xchgD op was v)) w := by
 obtain ⟨T, hT⟩ := zn1 (xchgD op was v)
 rw [<- hT]
 unfold xchgD at hT
 have HT := hide1 hT
 clear hT
 have q1 := b_or was v (by omega) (by omega)
 have q2 := b_andn was v (by omega) (by omega)
 go_enter func280, ntmps280
 exact zq211
theorem ne0 (n : Nat) : ((n : Int) != 0) = !decide (n = 0) := by by_cases h : n = 0 <;> simp [h]
def xsetD (v m : Nat) (so : Bool) : Nat := bif so then v ||| m else wout v m
theorem xsetD_lt (v m : Nat) (so : Bool) (hv : v < 4294967296) (hm : m < 4294967296) : xsetD v m so < 4294967296 := by
 cases so
 . exact Nat.lt_of_le_of_lt (wout_le _ _) hv
 . exact nat_or_lt v m 32 hv hm
def xstrD (s mode : Nat) : Nat := wout (xsetD (xsetD s 32 (!decide (s &&& 2 = 0))) 256 (decide (mode = 1))) 2
theorem x_superTrapped (s mode : Nat) (hs : s < 4294967296) (w : World) :
 CS 188 #[.int .i64 s, .int .i64 mode] (.int .i64 (xstrD s mode)) w := by
 have q1 : bits .and .i64 (s : Int) 2 = ((s &&& 2 : Nat) : Int) := b_and s 2 (by omega) (by omega)
 have q2 := ne0 (s &&& 2)
 obtain ⟨b, hb⟩ := zn1 (!decide (s &&& 2 = 0))
 rw [<- q1, <- hb] at q2
 obtain ⟨s1, h1⟩ := zn1 (xsetD s 32 b)
 have l1 : s1 < 4294967296 := zq8
 have S1 : Hid (CS 258 #[.int .i64 s, .int .i64 32, .bool b] (.int .i64 (s1 : Int)) w) := by rw [h1]; exact hide1 (x_setIf s 32 b hs (by omega) w)
 obtain ⟨c, hc⟩ := zn1 (decide (mode = 1))
 have q3 : ((mode : Int) == 1) = c := by rw [hc]; by_cases h : mode = 1 <;> simp [h]; omega
 obtain ⟨s2, h2⟩ := zn1 (xsetD s1 256 c)
 have l2 : s2 < 4294967296 := by rw [h2]; exact xsetD_lt _ _ _ l1 (by omega)
 have S2 : Hid (CS 258 #[.int .i64 s1, .int .i64 256, .bool c] (.int .i64 (s2 : Int)) w) := by rw [h2]; exact hide1 (x_setIf s1 256 c l1 (by omega) w)
 have q4 : bits .andNot .i64 (s2 : Int) 2 = ((wout s2 2 : Nat) : Int) := b_andn s2 2 (by omega) (by omega)
 have R : xstrD s mode = wout s2 2 := by unfold xstrD; rw [<- hb, <- hc, <- h1, <- h2]
 rw [R]
 clear R hb hc h1 h2 q1
 go_enter func188, ntmps188
 exact zq218
def xmtrD (s mode : Nat) : Nat := wout (xmixD (xsetD s 128 (!decide (s &&& 8 = 0))) (mode * 2048) 6144) 8
theorem xmixD_lt (a v m : Nat) (ha : a < 4294967296) (hm : m < 4294967296) : xmixD a v m < 4294967296 := nat_or_lt _ _ 32 (Nat.lt_of_le_of_lt (wout_le _ _) ha) (Nat.lt_of_le_of_lt Nat.and_le_right hm)
theorem x_machTrapped (s mode : Nat) (hs : s < 4294967296) (hm : mode < 4) (w : World) :
 CS 190 #[.int .i64 s, .int .i64 mode] (.int .i64 (xmtrD s mode)) w := by
 have q1 : bits .and .i64 (s : Int) 8 = ((s &&& 8 : Nat) : Int) := b_and s 8 (by omega) (by omega)
 have q2 := ne0 (s &&& 8)
 obtain ⟨b, hb⟩ := zn1 (!decide (s &&& 8 = 0))
 rw [<- q1, <- hb] at q2
 obtain ⟨s1, h1⟩ := zn1 (xsetD s 128 b)
 have l1 : s1 < 4294967296 := zq8
 have S1 : Hid (CS 258 #[.int .i64 s, .int .i64 128, .bool b] (.int .i64 (s1 : Int)) w) := by rw [h1]; exact hide1 (x_setIf s 128 b hs (by omega) w)
 obtain ⟨m, hm2⟩ := zn1 (mode * 2048)
 have q3 : (mode : Int) * 2048 = (m : Int) := by omega
 obtain ⟨s2, h2⟩ := zn1 (xmixD s1 m 6144)
 have l2 : s2 < 4294967296 := by rw [h2]; exact xmixD_lt _ _ _ l1 (by omega)
 have S2 : Hid (CS 259 #[.int .i64 s1, .int .i64 m, .int .i64 6144] (.int .i64 (s2 : Int)) w) := by rw [h2]; exact hide1 (x_mixed s1 m 6144 l1 (by omega) (by omega) w)
 have q4 : bits .andNot .i64 (s2 : Int) 8 = ((wout s2 8 : Nat) : Int) := b_andn s2 8 (by omega) (by omega)
 have R : xmtrD s mode = wout s2 8 := by unfold xmtrD; rw [<- hb, <- hm2, <- h1, <- h2]
 rw [R]
 clear R hb h1 h2 q1 hm2
 go_enter func190, ntmps190
 exact zq218
def xsretD (s : Nat) : Nat := wout (xsetD s 2 (!decide (s &&& 32 = 0))) 131328 ||| 32
theorem x_superReturned (s : Nat) (hs : s < 4294967296) (w : World) :
 CS 283 #[.int .i64 s] (.int .i64 (xsretD s)) w := by
 have q1 : bits .and .i64 (s : Int) 32 = ((s &&& 32 : Nat) : Int) := b_and s 32 (by omega) (by omega)
 have q2 := ne0 (s &&& 32)
 obtain ⟨b, hb⟩ := zn1 (!decide (s &&& 32 = 0))
 rw [<- q1, <- hb] at q2
 obtain ⟨s1, h1⟩ := zn1 (xsetD s 2 b)
 have l1 : s1 < 4294967296 := zq8
 have S1 : Hid (CS 258 #[.int .i64 s, .int .i64 2, .bool b] (.int .i64 (s1 : Int)) w) := by rw [h1]; exact hide1 (x_setIf s 2 b hs (by omega) w)
 have q4 : bits .andNot .i64 (s1 : Int) 131328 = ((wout s1 131328 : Nat) : Int) := b_andn s1 131328 (by omega) (by omega)
 have q5 : bits .or .i64 ((wout s1 131328 : Nat) : Int) 32 = ((wout s1 131328 ||| 32 : Nat) : Int) := b_or (wout s1 131328) 32 (Nat.lt_of_le_of_lt (wout_le _ _) (by omega)) (by omega)
 have R : xsretD s = wout s1 131328 ||| 32 := by unfold xsretD; rw [<- hb, <- h1]
 rw [R]
 clear R hb h1 q1
 go_enter func283, ntmps283
 exact zq219
def xmretA (s : Nat) : Nat := if s &&& 6144 = 6144 then s else wout s 131072
def xmretD (s : Nat) : Nat := wout (xsetD (xmretA s) 8 (!decide (xmretA s &&& 128 = 0))) 6144 ||| 128
theorem x_machReturned (s : Nat) (hs : s < 4294967296) (w : World) :
 CS 282 #[.int .i64 s] (.int .i64 (xmretD s)) w := by
 have p1 : bits .and .i64 (s : Int) 6144 = ((s &&& 6144 : Nat) : Int) := b_and s 6144 (by omega) (by omega)
 have p2 : bits .andNot .i64 (s : Int) 131072 = ((wout s 131072 : Nat) : Int) := b_andn s 131072 (by omega) (by omega)
 have hmA : xmretA s < 4294967296 := by
  unfold xmretA; split
  . exact hs
  . exact Nat.lt_of_le_of_lt (wout_le _ _) hs
 unfold xmretD
 obtain ⟨t, ht⟩ := zn1 (xmretA s)
 rw [<- ht] at hmA |-
 have q1 : bits .and .i64 (t : Int) 128 = ((t &&& 128 : Nat) : Int) := b_and t 128 (by omega) (by omega)
 have q2 := ne0 (t &&& 128)
 obtain ⟨b, hb⟩ := zn1 (!decide (t &&& 128 = 0))
 rw [<- q1, <- hb] at q2
 obtain ⟨s1, h1⟩ := zn1 (xsetD t 8 b)
 have l1 : s1 < 4294967296 := by rw [h1]; exact xsetD_lt _ _ _ hmA (by omega)
 have S1 : Hid (CS 258 #[.int .i64 t, .int .i64 8, .bool b] (.int .i64 (s1 : Int)) w) := by rw [h1]; exact hide1 (x_setIf t 8 b hmA (by omega) w)
 have q4 : bits .andNot .i64 (s1 : Int) 6144 = ((wout s1 6144 : Nat) : Int) := b_andn s1 6144 (by omega) (by omega)
 have q5 : bits .or .i64 ((wout s1 6144 : Nat) : Int) 128 = ((wout s1 6144 ||| 128 : Nat) : Int) := b_or (wout s1 6144) 128 (Nat.lt_of_le_of_lt (wout_le _ _) (by omega)) (by omega)
 rw [<- hb, <- h1]
 clear hb h1 q1
 unfold xmretA at ht
 by_cases h : s &&& 6144 = 6144
 . rw [if_pos h] at ht
   subst ht
   rw [h] at p1
   have p1' : bits .and .i64 (t : Int) 6144 = 6144 := p1
   clear p1 h
   exact zq220
 . rw [if_neg h] at ht
   have p3 : (bits .and .i64 (s : Int) 6144 != 6144) = true := by rw [p1]; simp; omega
   rw [<- ht] at p2
   clear p1 h ht
   exact zq220
def xstwD (s v : Nat) : Nat := if v &&& 6144 = 4096 then xmixD s v 8257962 else v &&& 8264106
theorem x_statusWritten (s v : Nat) (hs : s < 4294967296) (hv : v < 4294967296) (w : World) :
 CS 380 #[.int .i64 s, .int .i64 v] (.int .i64 (xstwD s v)) w := by
 have p1 : bits .and .i64 (v : Int) 6144 = ((v &&& 6144 : Nat) : Int) := b_and v 6144 (by omega) (by omega)
 have p2 : bits .and .i64 (v : Int) 8264106 = ((v &&& 8264106 : Nat) : Int) := b_and v 8264106 (by omega) (by omega)
 obtain ⟨T, hT⟩ := zn1 (xstwD s v)
 rw [<- hT]
 unfold xstwD at hT
 by_cases h : v &&& 6144 = 4096
 . rw [if_pos h] at hT
   rw [h] at p1
   have p1' : bits .and .i64 (v : Int) 6144 = 4096 := p1
   clear p1 h
   have S1 : Hid (CS 259 #[.int .i64 s, .int .i64 v, .int .i64 8257962] (.int .i64 (T : Int)) w) := by rw [hT]; exact hide1 (x_mixed s v 8257962 hs hv (by omega) w)
   clear hT
   go_enter func380, ntmps380
   exact zq219
 . rw [if_neg h] at hT
   have p3 : (bits .and .i64 (v : Int) 6144 == 4096) = false := by rw [p1]; simp; omega
   rw [<- hT] at p2
   clear p1 h hT
   go_enter func380, ntmps380
   exact zq210
def xmuD (a : Nat) : Int := if xhbD a 11 then 11 else if xhbD a 3 then 3 else if xhbD a 7 then 7 else if xhbD a 9 then 9 else if xhbD a 1 then 1 else if xhbD a 5 then 5 else -1
theorem x_mostUrgent (a : Nat) (ha : a < 4294967296) (w : World) :
 CS 127 #[.int .i64 a] (.int .i64 (xmuD a)) w := by
 have HB : ∀ k : Nat, Hid (CS 187 #[.int .i64 a, .int .i64 k] (.bool (xhbD a k)) w) := fun k => hide1 (x_hasBit a k ha w)
 have H11 : Hid (CS 187 #[.int .i64 a, .int .i64 11] (.bool (xhbD a 11)) w) := HB 11
 have H3 : Hid (CS 187 #[.int .i64 a, .int .i64 3] (.bool (xhbD a 3)) w) := HB 3
 have H7 : Hid (CS 187 #[.int .i64 a, .int .i64 7] (.bool (xhbD a 7)) w) := HB 7
 have H9 : Hid (CS 187 #[.int .i64 a, .int .i64 9] (.bool (xhbD a 9)) w) := HB 9
 have H1 : Hid (CS 187 #[.int .i64 a, .int .i64 1] (.bool (xhbD a 1)) w) := HB 1
 have H5 : Hid (CS 187 #[.int .i64 a, .int .i64 5] (.bool (xhbD a 5)) w) := HB 5
 unfold xmuD
 obtain ⟨b11, h11⟩ := zn1 (xhbD a 11)
 obtain ⟨b3, h3⟩ := zn1 (xhbD a 3)
 obtain ⟨b7, h7⟩ := zn1 (xhbD a 7)
 obtain ⟨b9, h9⟩ := zn1 (xhbD a 9)
 obtain ⟨b1, h1⟩ := zn1 (xhbD a 1)
 obtain ⟨b5, h5⟩ := zn1 (xhbD a 5)
 rw [<- h11] at H11 |-
 rw [<- h3] at H3 |-
 rw [<- h7] at H7 |-
 rw [<- h9] at H9 |-
 rw [<- h1] at H1 |-
 rw [<- h5] at H5 |-
 clear h11 h3 h7 h9 h1 h5 HB
 cases b11
 case true =>
  go_enter func127, ntmps127
  go_wp2_with fail
  refine H11.out.mono ?_
  exact zq221
 cases b3
 case true =>
  go_enter func127, ntmps127
  go_wp2_with fail
  refine H11.out.mono ?_
  rintro e w1 ⟨rfl, rfl⟩
  go_wp2_with fail
  refine H3.out.mono ?_
  exact zq221
 cases b7
 case true =>
  go_enter func127, ntmps127
  go_wp2_with fail
  refine H11.out.mono ?_
  rintro e w1 ⟨rfl, rfl⟩
  go_wp2_with fail
  refine H3.out.mono ?_
  rintro e w1 ⟨rfl, rfl⟩
  go_wp2_with fail
  refine H7.out.mono ?_
  exact zq221
 cases b9
 case true =>
  go_enter func127, ntmps127
  go_wp2_with fail
  refine H11.out.mono ?_
  rintro e w1 ⟨rfl, rfl⟩
  go_wp2_with fail
  refine H3.out.mono ?_
  rintro e w1 ⟨rfl, rfl⟩
  go_wp2_with fail
  refine H7.out.mono ?_
  rintro e w1 ⟨rfl, rfl⟩
  go_wp2_with fail
  refine H9.out.mono ?_
  exact zq221
 cases b1
 case true =>
  go_enter func127, ntmps127
  go_wp2_with fail
  refine H11.out.mono ?_
  rintro e w1 ⟨rfl, rfl⟩
  go_wp2_with fail
  refine H3.out.mono ?_
  rintro e w1 ⟨rfl, rfl⟩
  go_wp2_with fail
  refine H7.out.mono ?_
  rintro e w1 ⟨rfl, rfl⟩
  go_wp2_with fail
  refine H9.out.mono ?_
  rintro e w1 ⟨rfl, rfl⟩
  go_wp2_with fail
  refine H1.out.mono ?_
  exact zq221
 cases b5
 all_goals
  go_enter func127, ntmps127
  go_wp2_with fail
  refine H11.out.mono ?_
  rintro e w1 ⟨rfl, rfl⟩
  go_wp2_with fail
  refine H3.out.mono ?_
  rintro e w1 ⟨rfl, rfl⟩
  go_wp2_with fail
  refine H7.out.mono ?_
  rintro e w1 ⟨rfl, rfl⟩
  go_wp2_with fail
  refine H9.out.mono ?_
  rintro e w1 ⟨rfl, rfl⟩
  go_wp2_with fail
  refine H1.out.mono ?_
  rintro e w1 ⟨rfl, rfl⟩
  go_wp2_with fail
  refine H5.out.mono ?_
  rintro e w1 ⟨rfl, rfl⟩
  go_wp2_with fail
  go_ret
  exact ⟨rfl, rfl⟩
def xhdlD (tvec cause : Nat) : Nat := if 2147483648 <= cause /\ ¬ tvec &&& 1 = 0 then (wout tvec 3 + 4 * (cause - 2147483648)) % 4294967296 else wout tvec 3
theorem x_handler (t c : Nat) (ht : t < 4294967296) (hc : c < 4294967296) (w : World) :
 CS 189 #[.int .i64 t, .int .i64 c] (.int .i64 (xhdlD t c)) w := by
 have p1 : bits .andNot .i64 (t : Int) 3 = ((wout t 3 : Nat) : Int) := b_andn t 3 (by omega) (by omega)
 have p2 : bits .and .i64 (t : Int) 1 = ((t &&& 1 : Nat) : Int) := b_and t 1 (by omega) (by omega)
 have p3 := ne0 (t &&& 1)
 rw [<- p2] at p3
 have p4 := wout_le t 3
 obtain ⟨T, hT⟩ := zn1 (xhdlD t c)
 rw [<- hT]
 unfold xhdlD at hT
 obtain ⟨u, hu⟩ := zn1 (wout t 3)
 rw [<- hu] at hT p1 p4
 have W1 : Hid (wordN (u : Int) = u) := hide1 (wordN_of u (by omega))
 clear hu
 by_cases h : 2147483648 <= c
 . by_cases h2 : t &&& 1 = 0
   . rw [if_neg (fun h => h.2 h2)] at hT
     have p5 : (bits .and .i64 (t : Int) 1 != 0) = false := by rw [p3, h2]; rfl
     subst hT
     clear p3 h2 p2
     exact zq222
   . rw [if_pos ⟨h, h2⟩] at hT
     have p5 : (bits .and .i64 (t : Int) 1 != 0) = true := by rw [p3]; rw [decide_eq_false h2]; rfl
     have HT := hide1 hT
     clear p3 h2 p2 hT
     go_enter func189, ntmps189
     go_wp2_with (go_at_call 135; refine (x_word _ _).mono ?_; rintro e w' ⟨rfl, rfl⟩)
     go_ret
     exact ⟨ret_intE (by rw [HT.out]; unfold wordN; omega), rfl⟩
 . rw [if_neg (fun h' => h h'.1)] at hT
   subst hT
   have q : decide ((2147483648 : Int) <= c) = false := by simp; omega
   exact zq222
theorem x_isPointer (e : Nat) (he : e < 4294967296) (w : World) :
 CS 376 #[.int .i64 e] (.bool (decide (e &&& 10 = 0))) w := by
 have p2 : bits .and .i64 (e : Int) 10 = ((e &&& 10 : Nat) : Int) := b_and e 10 (by omega) (by omega)
 have p3 : ((((e &&& 10 : Nat)) : Int) == 0) = decide (e &&& 10 = 0) := by by_cases h : e &&& 10 = 0 <;> simp [h]
 obtain ⟨b, hb⟩ := zn1 (decide (e &&& 10 = 0))
 rw [<- p2, <- hb] at p3
 rw [<- hb]
 clear p2 hb
 go_enter func376, ntmps376
 exact zq210
theorem x_modified (op : Int) (h0 : 52 <= op) (h1 : op <= 60) (a b : Nat) (ha : a < 4294967296) (hb : b < 4294967296) (w : World) :
 CS 349 #[.int .i64 op, .int .i64 a, .int .i64 b] (.int .i64 (alu op a b)) w := by
 have q1 := b_xor a b (by omega) (by omega)
 have q2 := b_and a b (by omega) (by omega)
 have q3 := b_or a b (by omega) (by omega)
 have h : op = 52 \/ op = 53 \/ op = 54 \/ op = 55 \/ op = 56 \/ op = 57 \/ op = 58 \/ op = 59 \/ op = 60 := by omega
 have hi : ∀ p : Prop, ∀ _ : Decidable p, (bif decide p then (a : Int) else b) = ((if p then a else b : Nat) : Int) := by
  intro p _; by_cases h : p <;> simp [h]
 have HI := hide1 hi
 clear hi
 rcases h with rfl | rfl | rfl | rfl | rfl | rfl | rfl | rfl | rfl
 all_goals
  go_enter func349, ntmps349
  go_wp2_with (first | (go_at_call 135; refine (x_word _ _).mono ?_; rintro e w' ⟨rfl, rfl⟩) | (go_at_call 263; refine (x_signed _ (by assumption) _).mono ?_; rintro e w' ⟨rfl, rfl⟩) | (go_at_call 347; refine (x_choose _ _ _ _).mono ?_; rintro e w' ⟨rfl, rfl⟩))
  go_ret
  refine ⟨ret_intE ?_, rfl⟩
  try simp only [wordN_wrap]
 . rfl
 . exact u_add a b
 . rfl
 . rfl
 . rfl
 . exact HI.out _ _
 . exact HI.out _ _
 . exact HI.out _ _
 . exact HI.out _ _
structure XCsr where
 mstatus : Nat
 medeleg : Nat
 mideleg : Nat
 mie : Nat
 mip : Nat
 mtvec : Nat
 mcen : Nat
 minh : Nat
 mscratch : Nat
 mepc : Nat
 mcause : Nat
 mtval : Nat
 stvec : Nat
 scen : Nat
 sscratch : Nat
 sepc : Nat
 scause : Nat
 stval : Nat
 satp : Nat
 cyc : Nat
 cych : Nat
 ret : Nat
 reth : Nat
structure XS where
 b : BusS
 c : XCsr
 x : List Nat
 pc : Nat
 mode : Nat
 waits : Bool
 resd : Bool
 resv : Nat
def xL (rb : Nat) (X : XS) : List Value := [.slice (some ⟨rb, 0, none⟩) X.b.ram.length X.b.ram.length, .int .i64 (X.x.getD 0 0), .int .i64 (X.x.getD 1 0), .int .i64 (X.x.getD 2 0), .int .i64 (X.x.getD 3 0), .int .i64 (X.x.getD 4 0), .int .i64 (X.x.getD 5 0), .int .i64 (X.x.getD 6 0), .int .i64 (X.x.getD 7 0), .int .i64 (X.x.getD 8 0), .int .i64 (X.x.getD 9 0), .int .i64 (X.x.getD 10 0), .int .i64 (X.x.getD 11 0), .int .i64 (X.x.getD 12 0), .int .i64 (X.x.getD 13 0), .int .i64 (X.x.getD 14 0), .int .i64 (X.x.getD 15 0), .int .i64 (X.x.getD 16 0), .int .i64 (X.x.getD 17 0), .int .i64 (X.x.getD 18 0), .int .i64 (X.x.getD 19 0), .int .i64 (X.x.getD 20 0), .int .i64 (X.x.getD 21 0), .int .i64 (X.x.getD 22 0), .int .i64 (X.x.getD 23 0), .int .i64 (X.x.getD 24 0), .int .i64 (X.x.getD 25 0), .int .i64 (X.x.getD 26 0), .int .i64 (X.x.getD 27 0), .int .i64 (X.x.getD 28 0), .int .i64 (X.x.getD 29 0), .int .i64 (X.x.getD 30 0), .int .i64 (X.x.getD 31 0), .int .i64 X.pc, .int .i64 X.mode, .bool X.waits, .bool X.resd, .int .i64 X.resv, .int .i64 X.c.mstatus, .int .i64 X.c.medeleg, .int .i64 X.c.mideleg, .int .i64 X.c.mie, .int .i64 X.c.mip, .int .i64 X.c.mtvec, .int .i64 X.c.mcen, .int .i64 X.c.minh, .int .i64 X.c.mscratch, .int .i64 X.c.mepc, .int .i64 X.c.mcause, .int .i64 X.c.mtval, .int .i64 X.c.stvec, .int .i64 X.c.scen, .int .i64 X.c.sscratch, .int .i64 X.c.sepc, .int .i64 X.c.scause, .int .i64 X.c.stval, .int .i64 X.c.satp, .int .i64 X.c.cyc, .int .i64 X.c.cych, .int .i64 X.c.ret, .int .i64 X.c.reth, .int .i64 X.b.msip, .int .i64 X.b.time, .int .i64 X.b.timeh, .int .i64 X.b.cmp, .int .i64 X.b.cmph, .int .i64 X.b.enable, .int .i64 X.b.scratch, .bool X.b.lost, .string X.b.rx, .string X.b.tx]
structure XAt (w : World) (mb rb : Nat) (X : XS) : Prop where
 cell : ∀ k, k < 71 -> w.cell? ⟨mb, k, none⟩ = (xL rb X)[k]?
 fro : ∀ o, w.frozen? ⟨mb, o, none⟩ = false
 lt : mb < w.heap.size
 ram : ∀ j (h : j < X.b.ram.length), w.cell? ⟨rb, j, none⟩ = some (.int .u8 (X.b.ram[j].toNat : Int))
 rfro : ∀ o, w.frozen? ⟨rb, o, none⟩ = false
 rlt : rb < w.heap.size
 ne : mb ≠ rb
abbrev CX (f : Nat) (a : Array Value) (r : Value) (F : List Nat) (mb rb : Nat) (X : XS) (w : World) : Prop := Calls prog f a w fun e w' => e = .returned r /\ XAt w' mb rb X /\ Kept F w w'
theorem XAt.more {w w' : World} {mb rb : Nat} {X : XS} {G : List Nat} (h : XAt w mb rb X) (hk : Kept G w w') (h1 : mb ∉ G) (h2 : rb ∉ G) : XAt w' mb rb X :=
 ⟨fun k hk' => (hk.cell (p := ⟨mb, k, none⟩) h.lt h1).trans (h.cell k hk'), fun o => (hk.frozen (p := ⟨mb, o, none⟩) h.lt h1).trans (h.fro o), Nat.lt_of_lt_of_le h.lt hk.size, fun j hj => (hk.cell (p := ⟨rb, j, none⟩) h.rlt h2).trans (h.ram j hj), fun o => (hk.frozen (p := ⟨rb, o, none⟩) h.rlt h2).trans (h.rfro o), Nat.lt_of_lt_of_le h.rlt hk.size, h.ne⟩
theorem XAt.kept {w w' : World} {mb rb : Nat} {X : XS} (h : XAt w mb rb X) (hk : Kept [] w w') : XAt w' mb rb X := h.more hk (by simp) (by simp)
theorem XAt.alloc {w mb rb X} (h : XAt w mb rb X) (o : Obj) : XAt (w.alloc o) mb rb X := h.kept ((Kept.refl [] w).alloc o)
theorem XAt.drew {w mb rb X} (h : XAt w mb rb X) : XAt w.drew mb rb X := h.kept (Kept.refl [] w).drew
theorem xL_len (rb : Nat) (X : XS) : (xL rb X).length = 71 := rfl
theorem XAt.set {w : World} {mb rb : Nat} {X X' : XS} (h : XAt w mb rb X) (k : Nat) (v : Value) (e : xL rb X' = (xL rb X).set k v) (er : X'.b.ram = X.b.ram) (hk : k < 71) : XAt (w.setCell ⟨mb, k, none⟩ v) mb rb X' := by
 have hl := xL_len rb X
 have hf := h.fro
 have hlt := h.lt
 have hne := h.ne
 have hne' : ¬ rb = mb := fun e => hne e.symm
 have hck := h.cell k hk
 rw [List.getElem?_eq_getElem (show k < (xL rb X).length by omega)] at hck
 refine ⟨fun j hj => ?_, ?_, ?_, ?_, ?_, ?_, hne⟩
 . have hc := h.cell j hj
   rw [e]
   by_cases ek : j = k
   . subst ek
     rw [List.getElem?_set_self (by omega)]
     simp [go_sem, hck]
   . have ek' : ¬ k = j := fun h => ek h.symm
     rw [List.getElem?_set_ne ek', <- hc]
     simp [go_sem, ek, ek']
 . simp [go_sem, hf]
 . simp [go_sem, hlt]
 . intro j hj
   have hj' : j < X.b.ram.length := by rw [<- er]; exact hj
   have hc := h.ram j hj'
   have : X'.b.ram[j] = X.b.ram[j] := by congr 1
   rw [this, <- hc]
   simp [go_sem, hne', hne]
 . have := h.rfro
   simp [go_sem, this]
 . have := h.rlt
   simp [go_sem, this]
theorem XAt.c0 {w mb rb X} (h : XAt w mb rb X) : w.cell? ⟨mb, 0, none⟩ = some (.slice (some ⟨rb, 0, none⟩) X.b.ram.length X.b.ram.length) := h.cell 0 (by omega)
theorem XAt.c1 {w mb rb X} (h : XAt w mb rb X) : w.cell? ⟨mb, 1, none⟩ = some (.int .i64 (X.x.getD 0 0)) := h.cell 1 (by omega)
theorem XAt.c2 {w mb rb X} (h : XAt w mb rb X) : w.cell? ⟨mb, 2, none⟩ = some (.int .i64 (X.x.getD 1 0)) := h.cell 2 (by omega)
theorem XAt.c3 {w mb rb X} (h : XAt w mb rb X) : w.cell? ⟨mb, 3, none⟩ = some (.int .i64 (X.x.getD 2 0)) := h.cell 3 (by omega)
theorem XAt.c4 {w mb rb X} (h : XAt w mb rb X) : w.cell? ⟨mb, 4, none⟩ = some (.int .i64 (X.x.getD 3 0)) := h.cell 4 (by omega)
theorem XAt.c5 {w mb rb X} (h : XAt w mb rb X) : w.cell? ⟨mb, 5, none⟩ = some (.int .i64 (X.x.getD 4 0)) := h.cell 5 (by omega)
theorem XAt.c6 {w mb rb X} (h : XAt w mb rb X) : w.cell? ⟨mb, 6, none⟩ = some (.int .i64 (X.x.getD 5 0)) := h.cell 6 (by omega)
theorem XAt.c7 {w mb rb X} (h : XAt w mb rb X) : w.cell? ⟨mb, 7, none⟩ = some (.int .i64 (X.x.getD 6 0)) := h.cell 7 (by omega)
theorem XAt.c8 {w mb rb X} (h : XAt w mb rb X) : w.cell? ⟨mb, 8, none⟩ = some (.int .i64 (X.x.getD 7 0)) := h.cell 8 (by omega)
theorem XAt.c9 {w mb rb X} (h : XAt w mb rb X) : w.cell? ⟨mb, 9, none⟩ = some (.int .i64 (X.x.getD 8 0)) := h.cell 9 (by omega)
theorem XAt.c11 {w mb rb X} (h : XAt w mb rb X) : w.cell? ⟨mb, 11, none⟩ = some (.int .i64 (X.x.getD 10 0)) := h.cell 11 (by omega)
theorem XAt.c13 {w mb rb X} (h : XAt w mb rb X) : w.cell? ⟨mb, 13, none⟩ = some (.int .i64 (X.x.getD 12 0)) := h.cell 13 (by omega)
theorem XAt.c16 {w mb rb X} (h : XAt w mb rb X) : w.cell? ⟨mb, 16, none⟩ = some (.int .i64 (X.x.getD 15 0)) := h.cell 16 (by omega)
theorem XAt.c32 {w mb rb X} (h : XAt w mb rb X) : w.cell? ⟨mb, 32, none⟩ = some (.int .i64 (X.x.getD 31 0)) := h.cell 32 (by omega)
theorem XAt.c33 {w mb rb X} (h : XAt w mb rb X) : w.cell? ⟨mb, 33, none⟩ = some (.int .i64 X.pc) := h.cell 33 (by omega)
theorem XAt.c34 {w mb rb X} (h : XAt w mb rb X) : w.cell? ⟨mb, 34, none⟩ = some (.int .i64 X.mode) := h.cell 34 (by omega)
theorem XAt.c35 {w mb rb X} (h : XAt w mb rb X) : w.cell? ⟨mb, 35, none⟩ = some (.bool X.waits) := h.cell 35 (by omega)
theorem XAt.c36 {w mb rb X} (h : XAt w mb rb X) : w.cell? ⟨mb, 36, none⟩ = some (.bool X.resd) := h.cell 36 (by omega)
theorem XAt.c37 {w mb rb X} (h : XAt w mb rb X) : w.cell? ⟨mb, 37, none⟩ = some (.int .i64 X.resv) := h.cell 37 (by omega)
theorem XAt.c38 {w mb rb X} (h : XAt w mb rb X) : w.cell? ⟨mb, 38, none⟩ = some (.int .i64 X.c.mstatus) := h.cell 38 (by omega)
theorem XAt.c39 {w mb rb X} (h : XAt w mb rb X) : w.cell? ⟨mb, 39, none⟩ = some (.int .i64 X.c.medeleg) := h.cell 39 (by omega)
theorem XAt.c40 {w mb rb X} (h : XAt w mb rb X) : w.cell? ⟨mb, 40, none⟩ = some (.int .i64 X.c.mideleg) := h.cell 40 (by omega)
theorem XAt.c41 {w mb rb X} (h : XAt w mb rb X) : w.cell? ⟨mb, 41, none⟩ = some (.int .i64 X.c.mie) := h.cell 41 (by omega)
theorem XAt.c42 {w mb rb X} (h : XAt w mb rb X) : w.cell? ⟨mb, 42, none⟩ = some (.int .i64 X.c.mip) := h.cell 42 (by omega)
theorem XAt.c43 {w mb rb X} (h : XAt w mb rb X) : w.cell? ⟨mb, 43, none⟩ = some (.int .i64 X.c.mtvec) := h.cell 43 (by omega)
theorem XAt.c44 {w mb rb X} (h : XAt w mb rb X) : w.cell? ⟨mb, 44, none⟩ = some (.int .i64 X.c.mcen) := h.cell 44 (by omega)
theorem XAt.c45 {w mb rb X} (h : XAt w mb rb X) : w.cell? ⟨mb, 45, none⟩ = some (.int .i64 X.c.minh) := h.cell 45 (by omega)
theorem XAt.c46 {w mb rb X} (h : XAt w mb rb X) : w.cell? ⟨mb, 46, none⟩ = some (.int .i64 X.c.mscratch) := h.cell 46 (by omega)
theorem XAt.c47 {w mb rb X} (h : XAt w mb rb X) : w.cell? ⟨mb, 47, none⟩ = some (.int .i64 X.c.mepc) := h.cell 47 (by omega)
theorem XAt.c48 {w mb rb X} (h : XAt w mb rb X) : w.cell? ⟨mb, 48, none⟩ = some (.int .i64 X.c.mcause) := h.cell 48 (by omega)
theorem XAt.c49 {w mb rb X} (h : XAt w mb rb X) : w.cell? ⟨mb, 49, none⟩ = some (.int .i64 X.c.mtval) := h.cell 49 (by omega)
theorem XAt.c50 {w mb rb X} (h : XAt w mb rb X) : w.cell? ⟨mb, 50, none⟩ = some (.int .i64 X.c.stvec) := h.cell 50 (by omega)
theorem XAt.c51 {w mb rb X} (h : XAt w mb rb X) : w.cell? ⟨mb, 51, none⟩ = some (.int .i64 X.c.scen) := h.cell 51 (by omega)
theorem XAt.c52 {w mb rb X} (h : XAt w mb rb X) : w.cell? ⟨mb, 52, none⟩ = some (.int .i64 X.c.sscratch) := h.cell 52 (by omega)
theorem XAt.c53 {w mb rb X} (h : XAt w mb rb X) : w.cell? ⟨mb, 53, none⟩ = some (.int .i64 X.c.sepc) := h.cell 53 (by omega)
theorem XAt.c54 {w mb rb X} (h : XAt w mb rb X) : w.cell? ⟨mb, 54, none⟩ = some (.int .i64 X.c.scause) := h.cell 54 (by omega)
theorem XAt.c55 {w mb rb X} (h : XAt w mb rb X) : w.cell? ⟨mb, 55, none⟩ = some (.int .i64 X.c.stval) := h.cell 55 (by omega)
theorem XAt.c56 {w mb rb X} (h : XAt w mb rb X) : w.cell? ⟨mb, 56, none⟩ = some (.int .i64 X.c.satp) := h.cell 56 (by omega)
theorem XAt.c57 {w mb rb X} (h : XAt w mb rb X) : w.cell? ⟨mb, 57, none⟩ = some (.int .i64 X.c.cyc) := h.cell 57 (by omega)
theorem XAt.c58 {w mb rb X} (h : XAt w mb rb X) : w.cell? ⟨mb, 58, none⟩ = some (.int .i64 X.c.cych) := h.cell 58 (by omega)
theorem XAt.c59 {w mb rb X} (h : XAt w mb rb X) : w.cell? ⟨mb, 59, none⟩ = some (.int .i64 X.c.ret) := h.cell 59 (by omega)
theorem XAt.c60 {w mb rb X} (h : XAt w mb rb X) : w.cell? ⟨mb, 60, none⟩ = some (.int .i64 X.c.reth) := h.cell 60 (by omega)
theorem XAt.c61 {w mb rb X} (h : XAt w mb rb X) : w.cell? ⟨mb, 61, none⟩ = some (.int .i64 X.b.msip) := h.cell 61 (by omega)
theorem XAt.c62 {w mb rb X} (h : XAt w mb rb X) : w.cell? ⟨mb, 62, none⟩ = some (.int .i64 X.b.time) := h.cell 62 (by omega)
theorem XAt.c63 {w mb rb X} (h : XAt w mb rb X) : w.cell? ⟨mb, 63, none⟩ = some (.int .i64 X.b.timeh) := h.cell 63 (by omega)
theorem XAt.c64 {w mb rb X} (h : XAt w mb rb X) : w.cell? ⟨mb, 64, none⟩ = some (.int .i64 X.b.cmp) := h.cell 64 (by omega)
theorem XAt.c65 {w mb rb X} (h : XAt w mb rb X) : w.cell? ⟨mb, 65, none⟩ = some (.int .i64 X.b.cmph) := h.cell 65 (by omega)
theorem XAt.c66 {w mb rb X} (h : XAt w mb rb X) : w.cell? ⟨mb, 66, none⟩ = some (.int .i64 X.b.enable) := h.cell 66 (by omega)
theorem XAt.c67 {w mb rb X} (h : XAt w mb rb X) : w.cell? ⟨mb, 67, none⟩ = some (.int .i64 X.b.scratch) := h.cell 67 (by omega)
theorem XAt.c68 {w mb rb X} (h : XAt w mb rb X) : w.cell? ⟨mb, 68, none⟩ = some (.bool X.b.lost) := h.cell 68 (by omega)
theorem XAt.c69 {w mb rb X} (h : XAt w mb rb X) : w.cell? ⟨mb, 69, none⟩ = some (.string X.b.rx) := h.cell 69 (by omega)
theorem XAt.c70 {w mb rb X} (h : XAt w mb rb X) : w.cell? ⟨mb, 70, none⟩ = some (.string X.b.tx) := h.cell 70 (by omega)
theorem setCells_size (b : Nat) : ∀ (vs : List Value) (o : Nat) (w : World), (w.setCells b o vs).heap.size = w.heap.size
 | [], o, w => rfl
 | v :: vs, o, w => by rw [World.setCells, setCells_size b vs]; simp [World.setCell]
theorem XAt.setCs {w : World} {mb rb : Nat} {X X' : XS} (h : XAt w mb rb X) (k : Nat) (vs : List Value) (e : xL rb X' = (xL rb X).take k ++ vs ++ (xL rb X).drop (k + vs.length)) (hk : k + vs.length <= 71) (er : X'.b.ram = X.b.ram) : XAt (w.setCells mb k vs) mb rb X' := by
 have hl := xL_len rb X
 refine ⟨fun j hj => ?_, ?_, ?_, ?_, ?_, ?_, h.ne⟩
 . rw [e]
   by_cases h1 : j < k
   . rw [World.cell?_setCells_out mb vs k w _ (fun _ _ => .inl h1), h.cell j hj, List.append_assoc, List.getElem?_append_left (by simp; omega), List.getElem?_take_of_lt h1]
   by_cases h2 : j < k + vs.length
   . obtain ⟨i, rfl⟩ : ∃ i, j = k + i := ⟨j - k, by omega⟩
     have := World.cell?_setCells_in mb vs k w (fun i hi => by rw [h.cell (k + i) (by omega), List.getElem?_eq_getElem (by omega)]; rfl) i (by omega)
     rw [this, List.getElem?_append_left (by simp; omega), List.getElem?_append_right (by simp; omega), List.length_take, show k + i - min k (xL rb X).length = i by omega, List.getElem?_eq_getElem (by omega)]
   . rw [World.cell?_setCells_out mb vs k w _ (fun _ _ => .inr (by show k + vs.length <= j; omega)), h.cell j hj, List.getElem?_append_right (by simp; omega), List.getElem?_drop, List.length_append, List.length_take]
     congr 1
     omega
 . intro o; rw [World.frozen?_setCells]; exact h.fro o
 . rw [setCells_size]; exact h.lt
 . intro j hj
   have hj' : j < X.b.ram.length := by rw [<- er]; exact hj
   have hc := h.ram j hj'
   have : X'.b.ram[j] = X.b.ram[j] := by congr 1
   rw [this, <- hc]
   exact World.cell?_setCells_out mb vs k w _ (fun e _ => absurd e.symm h.ne)
 . intro o; rw [World.frozen?_setCells]; exact h.rfro o
 . rw [setCells_size]; exact h.rlt
theorem Kept.setCs {F : List Nat} {a : World} (b : Nat) (hb : b ∈ F \/ a.heap.size <= b) : ∀ (vs : List Value) (o : Nat) (w : World), Kept F a w -> Kept F a (w.setCells b o vs)
 | [], o, w, h => h
 | v :: vs, o, w, h => Kept.setCs b hb vs (o + 1) _ (h.setCell hb v)
theorem XAt.there' {w mb rb X} (h : XAt w mb rb X) (k n : Nat) (hk : k + n <= 71) : w.there mb k n := fun j hj => ⟨by rw [h.cell (k + j) (by omega), List.getElem?_eq_getElem (by rw [xL_len]; omega)]; rfl, h.fro _⟩
theorem XAt.range {w mb rb X} (h : XAt w mb rb X) : w.rangeAt mb 0 (xL rb X) := fun j v hv => by
 have hj := (List.getElem?_eq_some_iff.1 hv).1
 rw [xL_len] at hj
 rw [Nat.zero_add, h.cell j hj, hv]
theorem xL_reg (rb : Nat) (X : XS) (i : Nat) (hi : i < 32) : (xL rb X)[1 + i]? = some (.int .i64 (X.x.getD i 0)) := by
 have h : i = 0 \/ i = 1 \/ i = 2 \/ i = 3 \/ i = 4 \/ i = 5 \/ i = 6 \/ i = 7 \/ i = 8 \/ i = 9 \/ i = 10 \/ i = 11 \/ i = 12 \/ i = 13 \/ i = 14 \/ i = 15 \/ i = 16 \/ i = 17 \/ i = 18 \/ i = 19 \/ i = 20 \/ i = 21 \/ i = 22 \/ i = 23 \/ i = 24 \/ i = 25 \/ i = 26 \/ i = 27 \/ i = 28 \/ i = 29 \/ i = 30 \/ i = 31 := by omega
 exact zq223
theorem XAt.reg {w mb rb X} (h : XAt w mb rb X) (i : Nat) (hi : i < 32) : w.cell? ⟨mb, 1 + i, none⟩ = some (.int .i64 (X.x.getD i 0)) := (h.cell (1 + i) (by omega)).trans (xL_reg rb X i hi)
theorem getD_set32 (l : List Nat) (i j v : Nat) (hl : l.length = 32) (hi : i < 32) : (l.set i v).getD j 0 = if j = i then v else l.getD j 0 := by
 simp only [List.getD_eq_getElem?_getD]
 by_cases h : j = i
 . subst h; rw [if_pos rfl, List.getElem?_set_self (by omega)]; rfl
 . rw [if_neg h, List.getElem?_set_ne (fun e => h e.symm)]
theorem xL_setReg (rb : Nat) (X : XS) (i v : Nat) (hl : X.x.length = 32) (hi : i < 32) : xL rb { X with x := X.x.set i v } = (xL rb X).set (1 + i) (.int .i64 (v : Int)) := by
 have h : i = 0 \/ i = 1 \/ i = 2 \/ i = 3 \/ i = 4 \/ i = 5 \/ i = 6 \/ i = 7 \/ i = 8 \/ i = 9 \/ i = 10 \/ i = 11 \/ i = 12 \/ i = 13 \/ i = 14 \/ i = 15 \/ i = 16 \/ i = 17 \/ i = 18 \/ i = 19 \/ i = 20 \/ i = 21 \/ i = 22 \/ i = 23 \/ i = 24 \/ i = 25 \/ i = 26 \/ i = 27 \/ i = 28 \/ i = 29 \/ i = 30 \/ i = 31 := by omega
 have e := fun j => getD_set32 X.x i j v hl hi
 unfold xL
 simp only [e]
 exact zq223
set_option maxRecDepth 100000 in
theorem x_register (mb rb : Nat) (X : XS) (i : Nat) (hi : i < 32) (w) (hw : Hid (XAt w mb rb X)) :
 CS 39 #[.pointer (some ⟨mb, 0, none⟩), .int .i64 i] (.int .i64 (X.x.getD i 0)) w := by
 have q1 : decide ((i : Int) < 0) = false := by simp
 have q2 : decide ((32 : Int) <= i) = false := by simp; omega
 have c := hw.out.reg i hi
 go_enter func39, ntmps39
 exact zq210
def setXR (X : XS) (d v : Nat) : XS := if d = 0 then X else { X with x := X.x.set d v }
set_option maxRecDepth 100000 in
theorem x_setRegister (mb rb : Nat) (X : XS) (hx : X.x.length = 32) (i v : Nat) (hi : i < 32) (w) (hw : Hid (XAt w mb rb X)) :
 CX 197 #[.pointer (some ⟨mb, 0, none⟩), .int .i64 i, .int .i64 v] (.tuple #[]) [mb] mb rb (setXR X i v) w := by
 unfold setXR
 by_cases h0 : i = 0
 . subst h0
   rw [if_pos rfl]
   go_enter func197, ntmps197
   go_wp2_with fail
   refine bodyPost_ret (results_none rfl _ _ _) rfl ?_
   exact zq224
 . rw [if_neg h0]
   have q1 : decide ((i : Int) < 1) = false := by simp; omega
   have q2 : decide ((32 : Int) <= i) = false := by simp; omega
   have c := hw.out.reg i hi
   have f := hw.out.fro
   clear h0
   go_enter func197, ntmps197
   go_wp2_with fail
   go_end0
   exact ⟨rfl, hw.out.set (1 + i) _ (xL_setReg rb X i v hx hi) rfl (by omega), (Kept.refl _ _).setCell (.inl (by simp)) _⟩
def unresX (X : XS) : XS := { X with resd := false, resv := 0 }
theorem x_unreserve (mb rb X w) (hw : Hid (XAt w mb rb X)) :
 CX 77 #[.pointer (some ⟨mb, 0, none⟩)] (.tuple #[]) [mb] mb rb (unresX X) w := by
 have c36 := hw.out.c36
 have c37 := hw.out.c37
 have f := hw.out.fro
 go_enter func77, ntmps77
 go_wp2_with fail
 go_end0
 exact ⟨rfl, (hw.out.set (X' := { X with resd := false }) 36 _ rfl rfl (by omega)).set 37 _ rfl rfl (by omega), ((Kept.refl _ _).setCell (.inl (by simp)) _).setCell (.inl (by simp)) _⟩
theorem x_reserve (mb rb : Nat) (X : XS) (a : Nat) (w) (hw : Hid (XAt w mb rb X)) :
 CX 348 #[.pointer (some ⟨mb, 0, none⟩), .int .i64 a] (.tuple #[]) [mb] mb rb ({ X with resd := true, resv := a }) w := by
 have c36 := hw.out.c36
 have c37 := hw.out.c37
 have f := hw.out.fro
 go_enter func348, ntmps348
 go_wp2_with fail
 go_end0
 exact ⟨rfl, (hw.out.set (X' := { X with resd := true }) 36 _ rfl rfl (by omega)).set 37 _ rfl rfl (by omega), ((Kept.refl _ _).setCell (.inl (by simp)) _).setCell (.inl (by simp)) _⟩
theorem x_Pc (mb rb X w) (hw : Hid (XAt w mb rb X)) :
 CS 102 #[.pointer (some ⟨mb, 0, none⟩)] (.int .i64 X.pc) w := by
 have c := hw.out.c33
 go_enter func102, ntmps102
 exact zq210
theorem x_Mode (mb rb X w) (hw : Hid (XAt w mb rb X)) :
 CS 101 #[.pointer (some ⟨mb, 0, none⟩)] (.int .i64 X.mode) w := by
 have c := hw.out.c34
 go_enter func101, ntmps101
 exact zq210
theorem x_Size (mb rb X w) (hw : Hid (XAt w mb rb X)) :
 CS 110 #[.pointer (some ⟨mb, 0, none⟩)] (.int .i64 (X.b.ram.length : Nat)) w := by
 have c := hw.out.c0
 go_enter func110, ntmps110
 exact zq210
theorem x_isRam (mb rb : Nat) (X : XS) (hL : X.b.ram.length <= 65536) (pa n : Int) (hp0 : -1099511627776 <= pa) (hp1 : pa <= 1099511627776) (hn0 : 1 <= n) (hn1 : n <= 4) (w) (hw : Hid (XAt w mb rb X)) :
 CS 261 #[.pointer (some ⟨mb, 0, none⟩), .int .i64 pa, .int .i64 n] (.bool (holdsD pa n X.b.ram.length)) w := by
 have c0 := hw.out.c0
 obtain ⟨L, hLL⟩ := zn1 (X.b.ram.length)
 rw [<- hLL] at c0 hL |-
 obtain ⟨T, hT⟩ := zn1 (holdsD pa n L)
 rw [<- hT]
 unfold holdsD at hT
 have HT := hide1 hT
 clear hT hLL
 go_enter func261, ntmps261
 exact zq217
theorem x_none (c t : Int) (w : World) :
 Calls prog 82 #[.agg #[.int .i64 c, .int .i64 t]] w fun e w' => e = .returned (.bool (c == -1)) /\ w' = w.alloc (.cells #[.int .i64 c, .int .i64 t] 118) := by
 go_enter func82, ntmps82
 exact zq210
theorem x_fine (w : World) :
 Calls prog 198 #[] w fun e w' => e = .returned (.agg #[.int .i64 (-1), .int .i64 0]) /\ w' = w.alloc (.cells #[.int .i64 (-1), .int .i64 0] 118) := by
 go_enter func198, ntmps198
 go_wp2_with fail
 exact bodyPost_ret (v := .agg #[.int .i64 (-1), .int .i64 0]) (by simp [results, results198, go_sem]) rfl ⟨rfl, rfl⟩
theorem x_atLeast (a b c d : Nat) (w : World) :
 Calls prog 256 #[.agg #[.int .i64 a, .int .i64 b], .agg #[.int .i64 c, .int .i64 d]] w fun e w' => e = .returned (.bool (decide (d < b \/ b = d /\ c <= a))) /\ w' = (w.alloc (.cells #[.int .i64 a, .int .i64 b] 69)).alloc (.cells #[.int .i64 c, .int .i64 d] 69) := by
 obtain ⟨T, hT⟩ := zn1 (decide (d < b \/ b = d /\ c <= a))
 rw [<- hT]
 by_cases h : d < b
 . have q : decide ((d : Int) < b) = true := by simp; exact h
   have q' : decide (d < b) = true := by simp; exact h
   have HT : Hid (T = true) := by rw [hT]; show _ = _; simp [h]
   clear hT h
   exact zq225
 . have q : decide ((d : Int) < b) = false := by simp; omega
   have q' : decide (d < b) = false := by simp; omega
   by_cases h2 : b = d
   . subst h2
     have HT : Hid (T = decide (c <= a)) := by rw [hT]; show _ = _; simp
     clear hT h
     go_enter func256, ntmps256
     go_wp2_with fail
     all_goals (go_ret; exact ⟨by rw [HT.out]; first | rfl | (simp [*]), rfl⟩)
   . have q2 : ((b : Int) == d) = false := by simp; omega
     have q2' : (b == d) = false := by simp; omega
     have HT : Hid (T = false) := by rw [hT]; show _ = _; simp [h, h2]
     clear hT h h2
     exact zq225
theorem iwrap (z : Int) : IntKind.i64.wrap z = wrap64 z := by rw [IntKind.wrap_i64]; unfold wrap64; omega
theorem plus_lo (a n : Nat) : (wordN ((a : Int) + n) : Int) = ((a + n) % 4294967296 : Nat) := by unfold wordN; omega
theorem plus_hi (a b n : Nat) : (wordN (IntKind.i64.wrap ((b : Int) + ((a : Int) + n) / 4294967296)) : Int) = ((b + (a + n) / 4294967296) % 4294967296 : Nat) := by rw [iwrap, wordN_wrap]; unfold wordN; omega
theorem x_plus (a b n : Nat) (ha : a < 4294967296) (hb : b < 4294967296) (hn : n < 4294967296) (w : World) :
 CK 85 #[.agg #[.int .i64 a, .int .i64 b], .int .i64 n] (.agg #[.int .i64 ((a + n) % 4294967296 : Nat), .int .i64 ((b + (a + n) / 4294967296) % 4294967296 : Nat)]) w := by
 rw [<- plus_lo, <- plus_hi]
 go_enter func85, ntmps85
 go_upto_region 2 with fail
 go_region_with (go_at_call 135; refine (x_word _ _).mono ?_; rintro e w1 ⟨rfl, rfl⟩)
 all_goals
  go_wp2_with fail
  exact bodyPost_ret (v := .agg #[.int .i64 (wordN ((a : Int) + n)), .int .i64 (wordN (IntKind.i64.wrap ((b : Int) + ((a : Int) + n) / 4294967296)))]) (by simp [results, results85, go_sem]) rfl ⟨rfl, by repeat (first | exact Kept.refl _ _ | refine Kept.drew ?_ | refine Kept.alloc ?_ _)⟩
section
attribute [local go_sem ↓] Go.wp_at_zero Go.wp_at_succ
def tmrA (B : BusS) : Value := .agg #[.int .i64 B.msip, .int .i64 B.time, .int .i64 B.timeh, .int .i64 B.cmp, .int .i64 B.cmph]
def prtA (B : BusS) : Value := .agg #[.int .i64 B.enable, .int .i64 B.scratch, .bool B.lost, .string B.rx, .string B.tx]
theorem mti_eq (B : BusS) : decide (B.cmph < B.timeh \/ B.timeh = B.cmph /\ B.cmp <= B.time) = mtipD B := by
 unfold mtipD
 by_cases h : B.cmph < B.timeh <;> by_cases h2 : B.timeh = B.cmph <;> simp [h, h2]
def tlnD (B : BusS) : Nat := B.msip * 8 ||| (mtipD B).toNat * 128
theorem x_tlines (B : BusS) (hB : BusOk B) (w : World) :
 CK 185 #[tmrA B] (.int .i64 (tlnD B)) w := by
 have l0 := hB.msip
 have q : bits .or .i64 ((B.msip : Int) * 8) (((mtipD B).toNat : Int) * 128) = (tlnD B : Int) := by
  have := b_or (B.msip * 8) ((mtipD B).toNat * 128) (by omega) (by cases mtipD B <;> decide)
  simpa [tlnD] using this
 have AL := fun w => hide1 (x_atLeast B.time B.timeh B.cmp B.cmph w)
 simp only [mti_eq] at AL
 obtain ⟨b, hb⟩ := zn1 (mtipD B)
 obtain ⟨T, hT⟩ := zn1 (tlnD B)
 rw [<- hb] at AL q
 rw [<- hT] at q |-
 clear hb hT
 unfold tmrA
 have l1 : b.toNat < 2 := by cases b <;> decide
 have w1 : IntKind.i64.wrap ((B.msip : Int) * 8) = (B.msip : Int) * 8 := zq9
 have w2 : IntKind.i64.wrap ((b.toNat : Int) * 128) = (b.toNat : Int) * 128 := zq9
 go_enter func185, ntmps185
 go_upto_region 1 with fail
 go_region_held3 (fun w' => w'.cell? ⟨w.heap.size, 0, none⟩ = some (.int .i64 B.msip) /\ w'.cell? ⟨w.heap.size, 1, none⟩ = some (.int .i64 B.time) /\ w'.cell? ⟨w.heap.size, 2, none⟩ = some (.int .i64 B.timeh) /\ w'.cell? ⟨w.heap.size, 3, none⟩ = some (.int .i64 B.cmp) /\ w'.cell? ⟨w.heap.size, 4, none⟩ = some (.int .i64 B.cmph)) (go_keep) (first | (go_at_call 256; refine (AL _).out.mono ?_; rintro e w1 ⟨rfl, rfl⟩) | (go_at_call 255; refine (x_oneIf _ _).mono ?_; rintro e w1 ⟨rfl, rfl⟩))
 all_goals
  go_wp2_with fail
  go_ret
  refine ⟨?_, ?_⟩
  . simp only [Act.put]; simp [q]
  . exact zq226
def trdD (B : BusS) (a : Int) : Nat := if a = 0 then B.msip else if a = 16384 then B.cmp else if a = 16388 then B.cmph else if a = 49144 then B.time else if a = 49148 then B.timeh else 0
theorem x_tread (B : BusS) (a : Int) (w : World) :
 CK 341 #[tmrA B, .int .i64 a] (.int .i64 (trdD B a)) w := by
 obtain ⟨T, hT⟩ := zn1 (trdD B a)
 rw [<- hT]
 unfold trdD at hT
 have HT := hide1 hT
 clear hT
 unfold tmrA
 go_enter func341, ntmps341
 go_wp2_with fail
 all_goals (go_ret; refine ⟨ret_intE ?_, (Kept.refl _ _).alloc _⟩; rw [HT.out]; simp_all)
def twrB (B : BusS) (a : Int) (v : Nat) : BusS := if a = 0 then { B with msip := v % 2 } else if a = 16384 then { B with cmp := v } else if a = 16388 then { B with cmph := v } else if a = 49144 then { B with time := v } else if a = 49148 then { B with timeh := v } else B
theorem x_twritten (B : BusS) (a : Int) (v : Nat) (w : World) :
 CK 344 #[tmrA B, .int .i64 a, .int .i64 v] (tmrA (twrB B a v)) w := by
 have q : bits .and .i64 (v : Int) 1 = ((v % 2 : Nat) : Int) := by rw [and_one]; simp
 by_cases h0 : a = 0
 . subst h0
   rw [show twrB B 0 v = { B with msip := v % 2 } from rfl]
   unfold tmrA
   go_enter func344, ntmps344
   go_wp2_with fail
   exact bodyPost_ret (v := tmrA { B with msip := v % 2 }) zq491 rfl ⟨rfl, by repeat (first | exact Kept.refl _ _ | refine Kept.drew ?_ | refine Kept.alloc ?_ _)⟩
 have q0 : (a == 0) = false := by simp [h0]
 by_cases h1 : a = 16384
 . subst h1
   rw [show twrB B 16384 v = { B with cmp := v } from rfl]
   unfold tmrA
   go_enter func344, ntmps344
   go_wp2_with fail
   exact bodyPost_ret (v := tmrA { B with cmp := v }) zq491 rfl ⟨rfl, by repeat (first | exact Kept.refl _ _ | refine Kept.drew ?_ | refine Kept.alloc ?_ _)⟩
 have q1 : (a == 16384) = false := by simp [h1]
 by_cases h2 : a = 16388
 . subst h2
   rw [show twrB B 16388 v = { B with cmph := v } from rfl]
   unfold tmrA
   go_enter func344, ntmps344
   go_wp2_with fail
   exact bodyPost_ret (v := tmrA { B with cmph := v }) zq491 rfl ⟨rfl, by repeat (first | exact Kept.refl _ _ | refine Kept.drew ?_ | refine Kept.alloc ?_ _)⟩
 have q2 : (a == 16388) = false := by simp [h2]
 by_cases h3 : a = 49144
 . subst h3
   rw [show twrB B 49144 v = { B with time := v } from rfl]
   unfold tmrA
   go_enter func344, ntmps344
   go_wp2_with fail
   exact bodyPost_ret (v := tmrA { B with time := v }) zq491 rfl ⟨rfl, by repeat (first | exact Kept.refl _ _ | refine Kept.drew ?_ | refine Kept.alloc ?_ _)⟩
 have q3 : (a == 49144) = false := by simp [h3]
 by_cases h4 : a = 49148
 . subst h4
   rw [show twrB B 49148 v = { B with timeh := v } from rfl]
   unfold tmrA
   go_enter func344, ntmps344
   go_wp2_with fail
   exact bodyPost_ret (v := tmrA { B with timeh := v }) zq491 rfl ⟨rfl, by repeat (first | exact Kept.refl _ _ | refine Kept.drew ?_ | refine Kept.alloc ?_ _)⟩
 have q4 : (a == 49148) = false := by simp [h4]
 rw [show twrB B a v = B by simp [twrB, h0, h1, h2, h3, h4]]
 clear h0 h1 h2 h3 h4
 unfold tmrA
 go_enter func344, ntmps344
 go_wp2_with fail
 exact bodyPost_ret (v := tmrA B) zq491 rfl ⟨rfl, by repeat (first | exact Kept.refl _ _ | refine Kept.drew ?_ | refine Kept.alloc ?_ _)⟩
theorem x_hasRoom (B : BusS) (w : World) :
 Calls prog 330 #[prtA B] w fun e w' => e = .returned (.bool (decide (B.tx.size < 8))) /\ w' = w.alloc (.cells #[.int .i64 B.enable, .int .i64 B.scratch, .bool B.lost, .string B.rx, .string B.tx] 75) := by
 obtain ⟨R, hR⟩ := zn2 (decide ((B.tx.size : Int) < 8))
 have HR : Hid (decide (B.tx.size < 8) = R) := by show _ = _; rw [<- hR, Bool.eq_iff_iff]; simp; omega
 unfold prtA
 go_enter func330, ntmps330
 go_wp2_with fail
 go_ret
 exact ⟨by rw [HR.out] <;> first | rfl | (rw [<- hR]; rfl), rfl⟩
theorem bit_of3 (e : Nat) (he : e < 8) : (bits .and .i64 (e : Int) 4 != 0) = decide (e / 4 % 2 = 1) /\ (bits .and .i64 (e : Int) 1 != 0) = decide (e % 2 = 1) /\ (bits .and .i64 (e : Int) 2 != 0) = decide (e / 2 % 2 = 1) := by
 have h : e = 0 \/ e = 1 \/ e = 2 \/ e = 3 \/ e = 4 \/ e = 5 \/ e = 6 \/ e = 7 := by omega
 rcases h with rfl | rfl | rfl | rfl | rfl | rfl | rfl | rfl <;> exact ⟨by decide, by decide, by decide⟩
theorem rx_empty (s : ByteArray) : s.toList.isEmpty = !decide (0 < s.size) := by
 have e : s.size = s.data.toList.length := rfl
 rw [ByteArray.toList_eq, e]
 cases s.data.toList <;> simp
theorem x_pwhy (B : BusS) (hE : B.enable < 8) (w : World) :
 CK 257 #[prtA B] (.int .i64 (whyD B)) w := by
 obtain ⟨q4, q1, q2⟩ := bit_of3 B.enable hE
 have HH := fun w => hide1 (x_hasRoom B w)
 obtain ⟨T, hT⟩ := zn1 (whyD B)
 rw [<- hT]
 unfold whyD at hT
 obtain ⟨b4, h4⟩ := zn1 (decide (B.enable / 4 % 2 = 1))
 obtain ⟨b1, h1⟩ := zn1 (decide (B.enable % 2 = 1))
 obtain ⟨b2, h2⟩ := zn1 (decide (B.enable / 2 % 2 = 1))
 obtain ⟨bR, hR⟩ := zn1 (decide (0 < B.rx.size))
 obtain ⟨bM, hM⟩ := zn1 (decide (B.tx.size < 8))
 rw [<- h4] at q4 hT
 rw [<- h1] at q1 hT
 rw [<- h2] at q2 hT
 rw [<- hR] at hT
 rw [<- hM] at hT
 simp only [<- hM] at HH
 unfold prtA at HH |-
 clear h4 h1 h2 hM
 obtain ⟨bl, hl⟩ := zn1 (B.lost)
 rw [<- hl] at hT HH |-
 clear hl
 obtain ⟨E, tx, rx, sc, h5⟩ : ∃ E tx rx sc, E = B.enable /\ tx = B.tx /\ rx = B.rx /\ sc = B.scratch := ⟨_, _, _, _, rfl, rfl, rfl, rfl⟩
 obtain ⟨e1, e2, e3, e4⟩ := h5
 simp only [<- e1, <- e2, <- e3, <- e4] at HH q4 q1 q2 hR |-
 have hs : rx.toList.isEmpty = !bR := by rw [hR]; exact rx_empty rx
 clear e1 e2 e3 e4 hE hR
 cases b4 <;> cases bl <;> cases b1 <;> cases bR <;> cases b2
 all_goals
  have HT := hide1 hT
  clear hT
  go_enter func257, ntmps257
  go_wp2_with (go_at_call 330; refine (HH _).out.mono ?_; rintro e w1 ⟨rfl, rfl⟩)
  all_goals (go_ret; refine ⟨ret_intE (by rw [HT.out]; simp_all), ?_⟩)
  all_goals (repeat (first | exact Kept.refl _ _ | refine Kept.drew ?_ | refine Kept.alloc ?_ _))
theorem wrap_small (n : Int) (h0 : -9223372036854775808 <= n) (h1 : n <= 9223372036854775807) : wrap64 n = n := by unfold wrap64; omega
theorem x_statD (B : BusS) : statD B = (decide (0 < B.rx.size)).toNat + 2 * B.lost.toNat + 32 * (decide (B.tx.size < 8)).toNat + 64 * (!decide (0 < B.tx.size)).toNat := by
 unfold statD
 have e : decide (B.tx.size = 0) = !decide (0 < B.tx.size) := by by_cases h : B.tx.size = 0 <;> simp [h]; omega
 rw [e]
 cases decide (0 < B.rx.size) <;> cases B.lost <;> cases decide (B.tx.size < 8) <;> cases decide (0 < B.tx.size) <;> rfl
theorem x_pstatus (B : BusS) (w : World) :
 CK 379 #[prtA B] (.int .i64 (statD B)) w := by
 have HH := fun w => hide1 (x_hasRoom B w)
 rw [x_statD]
 obtain ⟨bR, hR⟩ := zn1 (decide (0 < B.rx.size))
 obtain ⟨bM, hM⟩ := zn1 (decide (B.tx.size < 8))
 obtain ⟨bT, hT⟩ := zn1 (decide (0 < B.tx.size))
 simp only [<- hM] at HH
 rw [<- hR, <- hM, <- hT]
 unfold prtA at HH |-
 obtain ⟨E, tx, rx, sc, lo, h5⟩ : ∃ E tx rx sc lo, E = B.enable /\ tx = B.tx /\ rx = B.rx /\ sc = B.scratch /\ lo = B.lost := ⟨_, _, _, _, _, rfl, rfl, rfl, rfl, rfl⟩
 obtain ⟨e1, e2, e3, e4, e5⟩ := h5
 simp only [<- e1, <- e2, <- e3, <- e4, <- e5] at HH hR hT |-
 have hs : rx.toList.isEmpty = !bR := by rw [hR]; exact rx_empty rx
 have hs2 : tx.toList.isEmpty = !bT := by rw [hT]; exact rx_empty tx
 clear e1 e2 e3 e4 e5 hR hT hM
 have l1 : bR.toNat < 2 := by cases bR <;> decide
 have l2 : bM.toNat < 2 := by cases bM <;> decide
 have l3 : lo.toNat < 2 := by cases lo <;> decide
 have l4 : (!bT).toNat < 2 := by cases bT <;> decide
 go_enter func379, ntmps379
 go_upto_region 1 with fail
 go_region_held3 (fun w' => w'.cell? ⟨w.heap.size, 0, none⟩ = some (.int .i64 E) /\ w'.cell? ⟨w.heap.size, 1, none⟩ = some (.int .i64 sc) /\ w'.cell? ⟨w.heap.size, 2, none⟩ = some (.bool lo) /\ w'.cell? ⟨w.heap.size, 3, none⟩ = some (.string rx) /\ w'.cell? ⟨w.heap.size, 4, none⟩ = some (.string tx)) (go_keep) (first | (go_at_call 330; refine (HH _).out.mono ?_; rintro e w1 ⟨rfl, rfl⟩) | (go_at_call 255; refine (x_oneIf _ _).mono ?_; rintro e w1 ⟨rfl, rfl⟩))
 all_goals
  go_wp2_with fail
  go_ret
  refine ⟨?_, ?_⟩
  . cases bR <;> cases lo <;> cases bM <;> cases bT <;> rfl
  . exact zq226
theorem alloc_ne (w : World) (o : Obj) (b k : Nat) (h : ¬ b = w.heap.size) : (w.alloc o).cell? ⟨b, k, none⟩ = w.cell? ⟨b, k, none⟩ := by
 by_cases hb : b < w.heap.size
 . exact ((Kept.refl [] w).alloc o).cell (p := ⟨b, k, none⟩) hb (by simp)
 . simp only [World.cell?, World.alloc]
   rw [Array.getElem?_push, if_neg h]
theorem Below.box {W w1 : World} (hb : Below W.heap.size W w1) (b : Nat) (hlt : b < W.heap.size) : (∀ o, w1.cell? ⟨b, o, none⟩ = W.cell? ⟨b, o, none⟩) /\ (∀ o, w1.frozen? ⟨b, o, none⟩ = W.frozen? ⟨b, o, none⟩) :=
 ⟨fun o => hb.cell (p := ⟨b, o, none⟩) hlt, fun o => hb.frozen (p := ⟨b, o, none⟩) hlt⟩
theorem Kept.box {W w1 : World} {F : List Nat} (hb : Kept F W w1) (b : Nat) (hlt : b < W.heap.size) (hn : b ∉ F) : (∀ o, w1.cell? ⟨b, o, none⟩ = W.cell? ⟨b, o, none⟩) /\ (∀ o, w1.frozen? ⟨b, o, none⟩ = W.frozen? ⟨b, o, none⟩) :=
 ⟨fun o => hb.cell (p := ⟨b, o, none⟩) hlt hn, fun o => hb.frozen (p := ⟨b, o, none⟩) hlt hn⟩
def plnD (B : BusS) : Nat := if whyD B = 1 then 0 else 2560
theorem x_plines (B : BusS) (hE : B.enable < 8) (w : World) :
 CK 186 #[prtA B] (.int .i64 (plnD B)) w := by
 have HY := fun w => hide1 (x_pwhy B hE w)
 obtain ⟨T, hT⟩ := zn1 (plnD B)
 rw [<- hT]
 unfold plnD at hT
 obtain ⟨y, hy⟩ := zn1 (whyD B)
 simp only [<- hy] at HY hT
 clear hy
 unfold prtA at HY |-
 by_cases h : y = 1
 . subst h
   have HT := hide1 hT
   clear hT
   exact zq227
 . have HT : Hid (T = 2560) := by rw [hT]; show _ = _; simp [h]
   have q : ((y : Int) != 1) = true := by simp; omega
   clear hT h
   exact zq227
def arrB (B : BusS) (b : Int) : BusS := if B.rx.size < 4 then { B with rx := B.rx ++ strOfNums (leL b 1) } else { B with lost := true }
theorem x_arrived (B : BusS) (hr : B.rx.size <= 4) (b : Int) (w : World) :
 CK 116 #[prtA B, .int .i64 b] (prtA (arrB B b)) w := by
 by_cases h : B.rx.size < 4
 . rw [show arrB B b = { B with rx := B.rx ++ strOfNums (leL b 1) } by unfold arrB; rw [if_pos h]]
   unfold prtA
   dsimp only
   obtain ⟨E, tx, rx, sc, lo, h5⟩ : ∃ E tx rx sc lo, E = B.enable /\ tx = B.tx /\ rx = B.rx /\ sc = B.scratch /\ lo = B.lost := ⟨_, _, _, _, _, rfl, rfl, rfl, rfl, rfl⟩
   obtain ⟨e1, e2, e3, e4, e5⟩ := h5
   simp only [<- e1, <- e2, <- e3, <- e4, <- e5] at h hr |-
   have q : decide ((4 : Int) <= rx.size) = false := by simp; omega
   have L : ∀ W, Hid (CB 147 #[.int .i64 b, .int .i64 1] (.string (strOfNums (leL b 1))) W) := fun W => hide1 (a_Le b 1 (by decide) W)
   obtain ⟨S, hS⟩ := zn1 (strOfNums (leL b 1))
   simp only [<- hS] at L |-
   have hl : S.size = 1 := by rw [hS, strNumsR_size, leLR_length]
   obtain ⟨c, hc, hcs, ha⟩ := add_in rx S (by omega)
   rw [<- hc]
   clear e1 e2 e3 e4 e5 h hS hc
   go_enter func116, ntmps116
   go_upto_region 4 with fail
   go_region_with (first | (go_at_call 147; refine (L _).out.mono ?_; rintro e w1 ⟨rfl, hb1⟩; obtain ⟨k0, f0⟩ := Below.box hb1 w.heap.size zq492; obtain ⟨k1, f1⟩ := Below.box hb1 (w.heap.size + 1) zq492))
   all_goals
    go_wp2_with fail
    exact bodyPost_ret (v := .agg #[.int .i64 E, .int .i64 sc, .bool lo, .string c, .string tx]) (by simp [results, results116, go_sem, k1]) rfl ⟨rfl, zq493⟩
 . rw [show arrB B b = { B with lost := true } by unfold arrB; rw [if_neg h]]
   have q : decide ((4 : Int) <= B.rx.size) = true := by simp; omega
   unfold prtA
   dsimp only
   go_enter func116, ntmps116
   go_wp2_with fail
   exact bodyPost_ret (v := .agg #[.int .i64 B.enable, .int .i64 B.scratch, .bool true, .string B.rx, .string B.tx]) (by simp [results, results116, go_sem]) rfl ⟨rfl, zq494⟩
def pwrB (B : BusS) (a : Int) (b : Nat) : BusS := if a = 0 then (if B.tx.size < 8 then { B with tx := B.tx ++ strOfNums (leL b 1) } else B) else if a = 1 then { B with enable := b % 8 } else if a = 7 then { B with scratch := b } else B
theorem and7 (b : Nat) : bits .and .i64 (b : Int) 7 = ((b % 8 : Nat) : Int) := by
 have := and_mask (b : Int) 3 (by decide)
 have e : ((2 : Int) ^ 3) = 8 := by decide
 have e2 : ((2 ^ 3 - 1 : Nat) : Int) = 7 := by decide
 exact zq212
theorem x_pwritten (B : BusS) (hr : B.tx.size <= 8) (a : Int) (b : Nat) (w : World) :
 CK 345 #[prtA B, .int .i64 a, .int .i64 b] (prtA (pwrB B a b)) w := by
 by_cases h0 : a = 0
 . subst h0
   have HH := fun w => hide1 (x_hasRoom B w)
   by_cases h : B.tx.size < 8
   . rw [show pwrB B 0 b = { B with tx := B.tx ++ strOfNums (leL b 1) } by unfold pwrB; rw [if_pos rfl, if_pos h]]
     rw [decide_eq_true h] at HH
     unfold prtA at HH |-
     dsimp only at HH |-
     obtain ⟨E, tx, rx, sc, lo, h5⟩ : ∃ E tx rx sc lo, E = B.enable /\ tx = B.tx /\ rx = B.rx /\ sc = B.scratch /\ lo = B.lost := ⟨_, _, _, _, _, rfl, rfl, rfl, rfl, rfl⟩
     obtain ⟨e1, e2, e3, e4, e5⟩ := h5
     simp only [<- e1, <- e2, <- e3, <- e4, <- e5] at h hr HH |-
     have L : ∀ W, Hid (CB 147 #[.int .i64 b, .int .i64 1] (.string (strOfNums (leL b 1))) W) := fun W => hide1 (a_Le b 1 (by decide) W)
     obtain ⟨S, hS⟩ := zn1 (strOfNums (leL b 1))
     simp only [<- hS] at L |-
     have hl : S.size = 1 := by rw [hS, strNumsR_size, leLR_length]
     obtain ⟨c, hc, hcs, ha⟩ := add_in tx S (by omega)
     rw [<- hc]
     clear e1 e2 e3 e4 e5 h hS hc
     go_enter func345, ntmps345
     go_upto_region 4 with (go_at_call 330; refine (HH _).out.mono ?_; rintro e w1 ⟨rfl, rfl⟩)
     go_region_with (first | (go_at_call 147; refine (L _).out.mono ?_; rintro e w1 ⟨rfl, hb1⟩; obtain ⟨k0, f0⟩ := Below.box hb1 w.heap.size zq492; obtain ⟨k1, f1⟩ := Below.box hb1 (w.heap.size + 1) zq492; have p0 : w1.cell? ⟨w.heap.size, 0, none⟩ = some (.int .i64 E) := (k0 0).trans zq495; have p1 : w1.cell? ⟨w.heap.size, 1, none⟩ = some (.int .i64 sc) := (k0 1).trans zq495; have p2 : w1.cell? ⟨w.heap.size, 2, none⟩ = some (.bool lo) := (k0 2).trans zq495; have p3 : w1.cell? ⟨w.heap.size, 3, none⟩ = some (.string rx) := (k0 3).trans zq495; have p4 : w1.cell? ⟨w.heap.size, 4, none⟩ = some (.string tx) := (k0 4).trans zq495; clear k0))
     all_goals
      go_wp2_with fail
      exact bodyPost_ret (v := .agg #[.int .i64 E, .int .i64 sc, .bool lo, .string rx, .string c]) (by simp [results, results345, go_sem, k1]) rfl ⟨rfl, zq493⟩
   . rw [show pwrB B 0 b = B by unfold pwrB; rw [if_pos rfl, if_neg h]]
     rw [decide_eq_false h] at HH
     unfold prtA at HH |-
     go_enter func345, ntmps345
     go_wp2_with (go_at_call 330; refine (HH _).out.mono ?_; rintro e w1 ⟨rfl, rfl⟩)
     exact zq228
 have q0 : (a == 0) = false := by simp [h0]
 by_cases h1 : a = 1
 . subst h1
   have q := and7 b
   rw [show pwrB B 1 b = { B with enable := b % 8 } from rfl]
   unfold prtA
   dsimp only
   go_enter func345, ntmps345
   go_wp2_with fail
   exact bodyPost_ret (v := .agg #[.int .i64 ((b % 8 : Nat) : Int), .int .i64 B.scratch, .bool B.lost, .string B.rx, .string B.tx]) zq496 rfl ⟨rfl, zq494⟩
 have q1 : (a == 1) = false := by simp [h1]
 by_cases h7 : a = 7
 . subst h7
   rw [show pwrB B 7 b = { B with scratch := b } from rfl]
   unfold prtA
   dsimp only
   go_enter func345, ntmps345
   go_wp2_with fail
   exact bodyPost_ret (v := .agg #[.int .i64 B.enable, .int .i64 b, .bool B.lost, .string B.rx, .string B.tx]) zq496 rfl ⟨rfl, zq494⟩
 have q7 : (a == 7) = false := by simp [h7]
 rw [show pwrB B a b = B by unfold pwrB; rw [if_neg h0, if_neg h1, if_neg h7]]
 clear h0 h1 h7
 unfold prtA
 go_enter func345, ntmps345
 go_wp2_with fail
 exact zq228
def prdB (B : BusS) (a : Int) : Nat × BusS :=
 if a = 0 then (if h : 0 < B.rx.size then (B.rx[0].toNat, { B with rx := B.rx.extract 1 B.rx.size }) else (0, B))
 else if a = 1 then (B.enable, B) else if a = 2 then (whyD B, B) else if a = 5 then (statD B, { B with lost := false }) else if a = 7 then (B.scratch, B) else (0, B)
theorem x_pread_en (B : BusS) (hE : B.enable < 8) (w : World) :
 CK 343 #[prtA B, .int .i64 1] (.tuple #[.int .i64 B.enable, prtA B]) w := by
 unfold prtA
 try dsimp only
 go_enter func343, ntmps343
 go_upto_region 9 with fail
 go_region_with fail
 all_goals
  go_wp2_with fail
  exact bodyPost_ret (v := .tuple #[.int .i64 B.enable, .agg #[.int .i64 B.enable, .int .i64 B.scratch, .bool B.lost, .string B.rx, .string B.tx]]) zq497 rfl ⟨rfl, zq494⟩
theorem x_pread_sc (B : BusS) (hE : B.enable < 8) (w : World) :
 CK 343 #[prtA B, .int .i64 7] (.tuple #[.int .i64 B.scratch, prtA B]) w := by
 unfold prtA
 try dsimp only
 go_enter func343, ntmps343
 go_upto_region 17 with fail
 go_region_with fail
 all_goals
  go_wp2_with fail
  exact bodyPost_ret (v := .tuple #[.int .i64 B.scratch, .agg #[.int .i64 B.enable, .int .i64 B.scratch, .bool B.lost, .string B.rx, .string B.tx]]) zq497 rfl ⟨rfl, zq494⟩
theorem x_pread_no (B : BusS) (hE : B.enable < 8) (a : Int) (q0 : (a == 0) = false) (q1 : (a == 1) = false) (q2 : (a == 2) = false) (q5 : (a == 5) = false) (q7 : (a == 7) = false) (w : World) :
 CK 343 #[prtA B, .int .i64 a] (.tuple #[.int .i64 0, prtA B]) w := by
 unfold prtA
 try dsimp only
 go_enter func343, ntmps343
 go_upto_region 18 with fail
 exact zq229
theorem x_pread_wy (B : BusS) (hE : B.enable < 8) (w : World) :
 CK 343 #[prtA B, .int .i64 2] (.tuple #[.int .i64 (whyD B), prtA B]) w := by
 have HY := fun w => hide1 (x_pwhy B hE w)
 obtain ⟨y, hy⟩ := zn1 (whyD B)
 simp only [<- hy] at HY |-
 clear hy
 unfold prtA at HY
 unfold prtA
 try dsimp only
 go_enter func343, ntmps343
 go_upto_region 11 with (go_at_call 257; refine (HY _).out.mono ?_; rintro e w1 ⟨rfl, hk1⟩; obtain ⟨k0, f0⟩ := hk1.box w.heap.size zq492 (by simp); obtain ⟨k1, f1⟩ := hk1.box (w.heap.size + 1) zq492 (by simp))
 go_region_with (go_at_call 257; refine (HY _).out.mono ?_; rintro e w1 ⟨rfl, hk1⟩; obtain ⟨k0, f0⟩ := hk1.box w.heap.size zq492 (by simp); obtain ⟨k1, f1⟩ := hk1.box (w.heap.size + 1) zq492 (by simp))
 all_goals
  go_wp2_with fail
  exact bodyPost_ret (v := .tuple #[.int .i64 y, .agg #[.int .i64 B.enable, .int .i64 B.scratch, .bool B.lost, .string B.rx, .string B.tx]]) (by simp [results, results343, go_sem, k1]) rfl ⟨rfl, zq498⟩
theorem x_pread_st (B : BusS) (hE : B.enable < 8) (w : World) :
 CK 343 #[prtA B, .int .i64 5] (.tuple #[.int .i64 (statD B), prtA { B with lost := false }]) w := by
 have HY := fun w => hide1 (x_pstatus B w)
 obtain ⟨y, hy⟩ := zn1 (statD B)
 simp only [<- hy] at HY |-
 clear hy
 unfold prtA at HY
 unfold prtA
 try dsimp only
 go_enter func343, ntmps343
 go_upto_region 15 with (go_at_call 379; refine (HY _).out.mono ?_; rintro e w1 ⟨rfl, hk1⟩; obtain ⟨k0, f0⟩ := hk1.box w.heap.size zq492 (by simp); obtain ⟨k1, f1⟩ := hk1.box (w.heap.size + 1) zq492 (by simp))
 go_region_with (go_at_call 379; refine (HY _).out.mono ?_; rintro e w1 ⟨rfl, hk1⟩; obtain ⟨k0, f0⟩ := hk1.box w.heap.size zq492 (by simp); obtain ⟨k1, f1⟩ := hk1.box (w.heap.size + 1) zq492 (by simp))
 all_goals
  go_wp2_with fail
  exact bodyPost_ret (v := .tuple #[.int .i64 y, .agg #[.int .i64 B.enable, .int .i64 B.scratch, .bool false, .string B.rx, .string B.tx]]) (by simp [results, results343, go_sem, k1]) rfl ⟨rfl, zq498⟩
theorem x_pread_d0 (B : BusS) (hE : B.enable < 8) (h : B.rx.size = 0) (w : World) :
 CK 343 #[prtA B, .int .i64 0] (.tuple #[.int .i64 0, prtA B]) w := by
 have hs : B.rx.toList.isEmpty = true := by rw [rx_empty, h]; rfl
 clear h
 unfold prtA
 try dsimp only
 go_enter func343, ntmps343
 go_upto_region 4 with fail
 exact zq229
theorem x_pread_d1 (B : BusS) (hr : 0 < B.rx.size) (w : World) :
 CK 343 #[prtA B, .int .i64 0] (.tuple #[.int .i64 (B.rx[0].toNat : Nat), prtA { B with rx := B.rx.extract 1 B.rx.size }]) w := by
 have hs : B.rx.toList.isEmpty = false := by rw [rx_empty, decide_eq_true hr]; rfl
 obtain ⟨X, hX⟩ := zn1 (B.rx.extract 1 B.rx.size)
 simp only [<- hX]
 have hsl : ∀ w, (Instr.slice 9 (.string B.rx) (some (.int .i64 1)) none none).run prog w = .ok (.string X) w := by
  intro w
  rw [hX, run_slice_string_from_if w 9 B.rx .i64 1 Tryz.underlying9, if_pos ⟨by omega, by omega⟩]
  simp
 have hb8 := u8_bd B.rx[0]
 obtain ⟨z, hz⟩ := zn1 (B.rx[0].toNat)
 simp only [<- hz] at hb8 |-
 have hz' : B.rx[0].toNat = z := hz.symm
 clear hz hX
 unfold prtA
 dsimp only
 go_enter func343, ntmps343
 go_upto_region 7 with fail
 go_region_with fail
 all_goals
  go_wp2_with fail
  exact bodyPost_ret (v := .tuple #[.int .i64 z, .agg #[.int .i64 B.enable, .int .i64 B.scratch, .bool B.lost, .string X, .string B.tx]]) zq497 rfl ⟨rfl, zq494⟩
theorem x_pread (B : BusS) (hE : B.enable < 8) (a : Int) (w : World) :
 CK 343 #[prtA B, .int .i64 a] (.tuple #[.int .i64 ((prdB B a).1 : Nat), prtA (prdB B a).2]) w := by
 by_cases h0 : a = 0
 . subst h0
   by_cases hr : 0 < B.rx.size
   . rw [show prdB B 0 = (B.rx[0].toNat, { B with rx := B.rx.extract 1 B.rx.size }) by unfold prdB; simp [hr]]
     exact x_pread_d1 B hr w
   . rw [show prdB B 0 = (0, B) by unfold prdB; simp [hr]]
     exact x_pread_d0 B hE (by omega) w
 by_cases h1 : a = 1
 . subst h1; exact x_pread_en B hE w
 by_cases h2 : a = 2
 . subst h2; exact x_pread_wy B hE w
 by_cases h5 : a = 5
 . subst h5; exact x_pread_st B hE w
 by_cases h7 : a = 7
 . subst h7; exact x_pread_sc B hE w
 rw [show prdB B a = (0, B) by unfold prdB; simp [h0, h1, h2, h5, h7]]
 exact x_pread_no B hE a (by simp [h0]) (by simp [h1]) (by simp [h2]) (by simp [h5]) (by simp [h7]) w
end
def XS.withB (X : XS) (B : BusS) : XS := { X with b := B }
theorem XAt.setR {w mb rb X} (h : XAt w mb rb X) (j : Nat) (hj : j < X.b.ram.length) (x : UInt8) : XAt (w.setCell ⟨rb, j, none⟩ (.int .u8 (x.toNat : Int))) mb rb { X with b := { X.b with ram := X.b.ram.set j x } } := by
 have hne := h.ne
 have hne' : ¬ rb = mb := fun e => hne e.symm
 have hf := h.fro
 have hl := h.lt
 have rf := h.rfro
 have rl := h.rlt
 have hrj := h.ram j hj
 refine ⟨fun k hk => ?_, ?_, ?_, fun k hk => ?_, ?_, ?_, hne⟩
 . have hc := h.cell k hk
   have e : (xL rb { X with b := { X.b with ram := X.b.ram.set j x } }) = xL rb X := by unfold xL; simp only [List.length_set]
   rw [e, <- hc]
   simp [go_sem, hne, hne']
 . simp [go_sem, hf]
 . simp [go_sem, hl]
 . have hk' : k < X.b.ram.length := by simpa using hk
   have hr := h.ram k hk'
   by_cases e : k = j
   . subst e; simp [go_sem, hr]
   . have e' : ¬ j = k := fun h => e h.symm
     simp [go_sem, hr, e, e', List.getElem_set]
 . simp [go_sem, rf]
 . simp [go_sem, rl]
theorem x_ramNumber_yes (mb rb : Nat) (X : XS) (hram : X.b.ram.length <= 65536) (pa : Int) (p n : Nat) (hp : pa - 2147483648 = p) (hn1 : 1 <= n) (hn4 : n <= 4) (hl : p + n <= X.b.ram.length) (w) (hw : Hid (XAt w mb rb X)) :
 CS 262 #[.pointer (some ⟨mb, 0, none⟩), .int .i64 pa, .int .i64 n] (.int .i64 (rdRam X.b p n)) w := by
 have c0 := hw.out.c0
 have hh := x_isRam mb rb X hram pa n (by omega) (by omega) (by omega) (by omega) w hw
 have ht : holdsD pa n X.b.ram.length = true := by unfold holdsD; simp; omega
 rw [ht] at hh
 have HH := hide1 hh
 clear hh ht
 unfold rdRam
 obtain ⟨S, hS⟩ := zn1 ((X.b.ram.drop p).take n)
 have hSl : S.length = n := by rw [hS, List.length_take, List.length_drop]; omega
 have hcell : ∀ k, (hk : k < n) -> w.cell? ⟨rb, p + k, none⟩ = some (.int .u8 ((S[k]'(by omega)).toNat : Int)) := by
  intro k hk
  have h := hw.out.ram (p + k) (by omega)
  have e : S[k]'(by omega) = X.b.ram[p + k]'(by omega) := by simp [hS]
  rw [h, e]
 rw [<- hS]
 have HC := hide1 hcell
 clear hS hcell
 obtain ⟨T, hT⟩ := zn1 (ldN S)
 rw [<- hT]
 have HT := hide1 hT
 have hlen : p + n <= X.b.ram.length := hl
 obtain ⟨L, hL⟩ := zn1 (X.b.ram.length)
 rw [<- hL] at c0 hram hlen
 clear hT hw hl hL
 go_enter func262, ntmps262
 go_wp2_with fail
 refine HH.out.mono ?_
 rintro e w1 ⟨rfl, rfl⟩
 clear HH
 go_wp2_with fail
 go_loop [8, 9] (fun c d => ∃ (k v : Nat), k <= n /\ v <= 4294967296 /\ c = .int .i64 v /\ d = .int .i64 ((k : Int) - 1) /\ Hid (v = ldN (S.drop k))) (fun _ d => ((intOf d) + 1).toNat)
 case atStart => exact ⟨n, 0, Nat.le_refl _, by omega, rfl, rfl, hide1 (by rw [List.drop_eq_nil_of_le (by omega)]; rfl)⟩
 case round =>
  obtain ⟨k, v, hk, hv, rfl, rfl, hg⟩ := hrel
  cases k with
  | zero =>
   have hvT : Hid (v = T) := by show v = T; rw [hg.out, HT.out]; rfl
   clear hg HT HC
   go_wp2_with fail
   go_ret
   exact ⟨by rw [hvT.out] <;> rfl, rfl⟩
  | succ k =>
   have ek : (((k + 1 : Nat) : Int) - 1) = k := by omega
   rw [ek]
   have hc := HC.out k (by omega)
   have hb := u8_bd (S[k]'(by omega))
   have hst : ldN (S.drop k) = (S[k]'(by omega)).toNat + 256 * v := by
    rw [List.drop_eq_getElem_cons (show k < S.length by omega)]
    simp only [ldN]; rw [hg.out]
   have hbd : ldN (S.drop k) <= 4294967296 := by
    have h1 := ldN_lt (S.drop k)
    have h2 : 256 ^ (S.drop k).length <= 256 ^ 4 := Nat.pow_le_pow_right (by decide) (by rw [List.length_drop]; omega)
    have h3 : 256 ^ 4 = 4294967296 := by decide
    omega
   obtain ⟨x, hx⟩ := zn1 ((S[k]'(by omega)).toNat)
   rw [<- hx] at hc hb hst
   have hgo : Hid (v * 256 + x = ldN (S.drop k)) := by show _ = _; rw [hst]; omega
   have hvx : v * 256 + x <= 4294967296 := by rw [hst] at hbd; omega
   clear hg HT hst hbd hx ek
   go_wp2_with fail
   go_round
   case rel => exact ⟨k, v * 256 + x, by omega, hvx, by go_num, by go_num, hgo⟩
   case measure => simp [intOf]
def setRam (X : XS) (r : List UInt8) : XS := { X with b := { X.b with ram := r } }
theorem x_setRamNumber_yes (mb rb : Nat) (X : XS) (hram : X.b.ram.length <= 65536) (pa : Int) (p n : Nat) (hp : pa - 2147483648 = p) (hn1 : 1 <= n) (hn4 : n <= 4) (hl : p + n <= X.b.ram.length) (v : Nat) (hv : v < 4294967296) (w) (hw : Hid (XAt w mb rb X)) :
 CX 346 #[.pointer (some ⟨mb, 0, none⟩), .int .i64 pa, .int .i64 n, .int .i64 v] (.tuple #[]) [rb] mb rb (setRam X (stN X.b.ram p n v)) w := by
 have hh := x_isRam mb rb X hram pa n (by omega) (by omega) (by omega) (by omega) w hw
 have ht : holdsD pa n X.b.ram.length = true := by unfold holdsD; simp; omega
 rw [ht] at hh
 have HH := hide1 hh
 clear hh ht
 obtain ⟨T, hT⟩ := zn1 (stN X.b.ram p n v)
 rw [<- hT]
 have HT := hide1 hT
 clear hT
 go_enter func346, ntmps346
 go_wp2_with fail
 refine HH.out.mono ?_
 rintro e w1 ⟨rfl, rfl⟩
 clear HH
 go_wp2_with fail
 go_loopw [3, 9] (fun c d wr => ∃ (i u : Nat) (R : List UInt8), i <= n /\ u < 4294967296 /\ c = .int .i64 u /\ d = .int .i64 i /\ R.length = X.b.ram.length /\ Hid (XAt wr mb rb (setRam X R)) /\ Hid (Kept [rb] w1 wr) /\ Hid (T = stN R (p + i) (n - i) u)) (fun _ d _ => n - (intOf d).toNat)
 case atStart => exact ⟨0, v, X.b.ram, by omega, hv, rfl, rfl, rfl, hw, hide1 (Kept.refl _ _), HT⟩
 case round =>
  obtain ⟨i, u, R, hi, hu, rfl, rfl, hR, hb, hk, hg⟩ := hrel
  clear HT
  by_cases hlt : i < n
  . have hlt' : decide ((i : Int) < (n : Int)) = true := by simp; omega
    have hpi : p + i < R.length := by omega
    have c0 := hb.out.c0
    simp only [setRam] at c0
    have rf := hb.out.rfro (p + i)
    have rc := hb.out.ram (p + i) hpi
    simp only [setRam] at rc
    have hset : XAt (wr.setCell ⟨rb, p + i, none⟩ (.int .u8 ((UInt8.ofNat u).toNat : Int))) mb rb (setRam X (R.set (p + i) (UInt8.ofNat u))) := hb.out.setR (p + i) hpi (UInt8.ofNat u)
    have e1 : (UInt8.ofNat u).toNat = u % 256 := by simp
    rw [e1] at hset
    have m1 : IntKind.u8.wrap (u : Int) = ((u % 256 : Nat) : Int) := by rw [IntKind.wrap_u8]; simp
    have m2 : (u : Int) % 256 = ((u % 256 : Nat) : Int) := by simp
    have d1 : (u : Int) / 256 = ((u / 256 : Nat) : Int) := by simp
    have hgo : Hid (T = stN (R.set (p + i) (UInt8.ofNat u)) (p + (i + 1)) (n - (i + 1)) (u / 256)) := by
     show T = _
     rw [hg.out, show n - i = (n - (i + 1)) + 1 by omega]; rfl
    have hu2 : u / 256 < 4294967296 := by omega
    have hx8 : u % 256 < 256 := by omega
    obtain ⟨x, hx⟩ := zn1 (u % 256)
    obtain ⟨y, hy⟩ := zn1 (u / 256)
    rw [<- hx] at hset m1 m2 hx8
    rw [<- hy] at d1 hgo hu2
    have HS := hide1 hset
    have hRl : R.length <= 65536 := by omega
    have hKs : Hid (Kept [rb] w1 (wr.setCell ⟨rb, p + i, none⟩ (.int .u8 (x : Int)))) := hide1 (hk.out.setCell (.inl (by simp)) _)
    have hRs : (R.set (p + i) (UInt8.ofNat u)).length = X.b.ram.length := by rw [List.length_set]; exact hR
    clear hset hx hy e1 hg
    go_wp2_with fail
    go_roundw
    case rel =>
     first
      | exact ⟨i + 1, y, R.set (p + i) (UInt8.ofNat u), by omega, hu2, rfl, by go_num, hRs, HS, hKs, hgo⟩
      | ((repeat apply Exists.intro); exact ⟨⟨i + 1, y, R.set (p + i) (UInt8.ofNat u), by omega, hu2, rfl, by go_num, hRs, HS, hKs, hgo⟩, rfl⟩)
    case measure => exact zq191
  . have hlt' : decide ((i : Int) < (n : Int)) = false := by simp; omega
    have hTR : Hid (T = R) := by show T = R; rw [hg.out, show n - i = 0 by omega]; rfl
    clear hg
    go_wp2_with fail
    go_end0
    exact ⟨rfl, by rw [hTR.out]; exact hb.out, hk.out⟩
def xC (X : XS) : CsrS := { mode := X.mode, sie := X.c.mstatus / 2 ^ 1 % 2, mie := X.c.mstatus / 2 ^ 3 % 2, spie := X.c.mstatus / 2 ^ 5 % 2, mpie := X.c.mstatus / 2 ^ 7 % 2, spp := X.c.mstatus / 2 ^ 8 % 2, mpp := X.c.mstatus / 2048 % 4, mprv := X.c.mstatus / 2 ^ 17 % 2, sum := X.c.mstatus / 2 ^ 18 % 2, mxr := X.c.mstatus / 2 ^ 19 % 2, tvm := X.c.mstatus / 2 ^ 20 % 2, tw := X.c.mstatus / 2 ^ 21 % 2, tsr := X.c.mstatus / 2 ^ 22 % 2, mtvec := X.c.mtvec, mscratch := X.c.mscratch, mepc := X.c.mepc, mcause := X.c.mcause, mtval := X.c.mtval, mcen := X.c.mcen, stvec := X.c.stvec, sscratch := X.c.sscratch, sepc := X.c.sepc, scause := X.c.scause, stval := X.c.stval, scen := X.c.scen, medeleg := X.c.medeleg, mideleg := X.c.mideleg, enable := X.c.mie, soft := X.c.mip, inhibit := X.c.minh, satp := X.c.satp, cycle := X.c.cyc, cycleh := X.c.cych, ret := X.c.ret, reth := X.c.reth, held := 0, wroteC := false, wroteI := false }
structure XOk (X : XS) : Prop where
 b : BusOk X.b
 x : X.x.length = 32
 xr : ∀ i, X.x.getD i 0 < 4294967296
 pc : X.pc < 4294967296
 mode : X.mode = 0 \/ X.mode = 1 \/ X.mode = 3
 mstatus : X.c.mstatus < 4294967296
 satp : X.c.satp < 4294967296
 mie : X.c.mie < 4294967296
 mip : X.c.mip <= 546
 medeleg : X.c.medeleg < 4294967296
 mideleg : X.c.mideleg < 4294967296
 mtvec : X.c.mtvec < 4294967296
 mcen : X.c.mcen < 8
 minh : X.c.minh < 8
 mscratch : X.c.mscratch < 4294967296
 mepc : X.c.mepc < 4294967296
 mcause : X.c.mcause < 4294967296
 mtval : X.c.mtval < 4294967296
 stvec : X.c.stvec < 4294967296
 scen : X.c.scen < 8
 sscratch : X.c.sscratch < 4294967296
 sepc : X.c.sepc < 4294967296
 scause : X.c.scause < 4294967296
 stval : X.c.stval < 4294967296
 cyc : X.c.cyc < 4294967296
 cych : X.c.cych < 4294967296
 ret : X.c.ret < 4294967296
 reth : X.c.reth < 4294967296
 resv : X.resv < 17184063488
 mpp : X.c.mstatus / 2048 % 4 ≠ 2
theorem and_bit (e i : Nat) : e &&& 2 ^ i = if bitN e i = true then 2 ^ i else 0 := by
 refine Nat.eq_of_testBit_eq fun j => ?_
 rw [Nat.testBit_and]
 have hb : bitN e i = e.testBit i := by unfold bitN; rw [Nat.testBit_eq_decide_div_mod_eq]
 rw [hb]
 by_cases h : i = j
 . subst h
   cases he : e.testBit i <;> simp
 . have h2 : (2 ^ i).testBit j = false := by rw [Nat.testBit_two_pow]; simp [h]
   rw [h2, Bool.and_false]
   split
   . exact h2.symm
   . simp
theorem and_bits (e a b : Nat) : e &&& (a ||| b) = (e &&& a) ||| (e &&& b) := Nat.and_or_distrib_left e a b
theorem t_and1 (e : Nat) : decide (e &&& 1 = 0) = !bitN e 0 := by
 have h := and_bit e 0
 rw [show (2 : Nat) ^ 0 = 1 from rfl] at h
 rw [h]; cases bitN e 0 <;> rfl
theorem t_and6 (e : Nat) : decide (e &&& 6 = 4) = (bitN e 2 && !bitN e 1) := by
 have h : e &&& 6 = (e &&& 2 ^ 1) ||| (e &&& 2 ^ 2) := and_bits e 2 4
 rw [h, and_bit, and_bit]; cases bitN e 1 <;> cases bitN e 2 <;> rfl
theorem t_and10 (e : Nat) : decide (e &&& 10 = 0) = (!bitN e 1 && !bitN e 3) := by
 have h : e &&& 10 = (e &&& 2 ^ 1) ||| (e &&& 2 ^ 3) := and_bits e 2 8
 rw [h, and_bit, and_bit]; cases bitN e 1 <;> cases bitN e 3 <;> rfl
theorem t_and208 (e : Nat) : decide (e &&& 208 = 0) = (!bitN e 4 && !bitN e 6 && !bitN e 7) := by
 have h : e &&& 208 = ((e &&& 2 ^ 4) ||| (e &&& 2 ^ 6)) ||| (e &&& 2 ^ 7) := by rw [<- and_bits, <- and_bits]; rfl
 rw [h, and_bit, and_bit, and_bit]; cases bitN e 4 <;> cases bitN e 6 <;> cases bitN e 7 <;> rfl
theorem t_and16 (e : Nat) : decide (e &&& 16 = 0) = !bitN e 4 := by
 have h := and_bit e 4
 rw [show (2 : Nat) ^ 4 = 16 from rfl] at h
 rw [h]; cases bitN e 4 <;> rfl
theorem t_bit (e i : Nat) : decide (e &&& 2 ^ i = 0) = !bitN e i := by
 rw [and_bit]; cases bitN e i
 . simp
 . have : ¬ 2 ^ i = 0 := Nat.pos_iff_ne_zero.1 (Nat.two_pow_pos i)
   simp [this]
theorem or_bit (e i : Nat) : e ||| 2 ^ i = if bitN e i = true then e else e + 2 ^ i := by
 have h := or_and _ e (2 ^ i) (Nat.le_refl _)
 rw [and_bit] at h
 split at h <;> rename_i hb <;> simp [hb] <;> omega
theorem bitN_add64 (e : Nat) (h : bitN e 6 = false) : bitN (e + 64) 7 = bitN e 7 := by
 unfold bitN at *
 simp at *
 omega
def mrkD (e kind : Nat) : Nat := if kind = 2 then (e ||| 64) ||| 128 else e ||| 64
theorem mrk_eq (e kind : Nat) : mrkD e kind = e + adB (bitN e 6) (bitN e 7) kind := by
 have h6 := or_bit e 6
 rw [show (2 : Nat) ^ 6 = 64 from rfl] at h6
 unfold mrkD adB
 cases hb : bitN e 6 with
 | true =>
  rw [hb] at h6
  simp only [if_true] at h6
  rw [h6]
  have h7 := or_bit e 7
  rw [show (2 : Nat) ^ 7 = 128 from rfl] at h7
  rw [h7]
  cases bitN e 7 <;> by_cases hk : kind = 2 <;> simp [hk]
 | false =>
  rw [hb] at h6
  simp at h6
  rw [h6]
  have h7 := or_bit (e + 64) 7
  rw [show (2 : Nat) ^ 7 = 128 from rfl, bitN_add64 e hb] at h7
  rw [h7]
  cases bitN e 7 <;> by_cases hk : kind = 2 <;> simp [hk]
theorem set_same {α : Type} (l : List α) (p : Nat) (h : p < l.length) (x : α) (hx : x = l[p]) : l.set p x = l := by subst hx; simp
theorem stN_same : ∀ (n : Nat) (r : List UInt8) (p : Nat), p + n <= r.length -> stN r p n (ldN ((r.drop p).take n)) = r
 | 0, r, p, h => rfl
 | n + 1, r, p, h => by
  have hp : p < r.length := by omega
  rw [List.drop_eq_getElem_cons hp, List.take_succ_cons]
  simp only [ldN, stN]
  have e1 : UInt8.ofNat (r[p].toNat + 256 * ldN ((r.drop (p + 1)).take n)) = r[p] := by
   apply UInt8.toNat_inj.1
   have := u8_bd r[p]
   simp
  have e2 : (r[p].toNat + 256 * ldN ((r.drop (p + 1)).take n)) / 256 = ldN ((r.drop (p + 1)).take n) := by
   have := u8_bd r[p]
   omega
  rw [e1, e2, set_same r p hp _ rfl]
  exact stN_same n r (p + 1) (by omega)
theorem bitN_val (s i : Nat) : bitN s i = decide (s / 2 ^ i % 2 = 1) := rfl
theorem and6144 (s : Nat) : (s &&& 6144) / 2048 = s / 2048 % 4 := by
 have h : s &&& 6144 = (s &&& 2 ^ 11) ||| (s &&& 2 ^ 12) := by rw [<- and_bits]; rfl
 rw [h, and_bit, and_bit]
 have e11 : bitN s 11 = decide (s / 2048 % 4 % 2 = 1) := by unfold bitN; congr 2; omega
 have e12 : bitN s 12 = decide (s / 2048 % 4 / 2 = 1) := by
  unfold bitN
  have : s / 2 ^ 12 % 2 = s / 2048 % 4 / 2 := by omega
  rw [this]
 rw [e11, e12]
 have hr : s / 2048 % 4 = 0 \/ s / 2048 % 4 = 1 \/ s / 2048 % 4 = 2 \/ s / 2048 % 4 = 3 := by omega
 rcases hr with h | h | h | h <;> rw [h] <;> rfl
theorem x_accessMode (mb rb : Nat) (X : XS) (hs : X.c.mstatus < 4294967296) (k : Int) (w) (hw : Hid (XAt w mb rb X)) :
 CS 331 #[.pointer (some ⟨mb, 0, none⟩), .int .i64 k] (.int .i64 (actsD (xC X) k)) w := by
 have c34 := hw.out.c34
 have c38 := hw.out.c38
 obtain ⟨T, hT⟩ := zn1 (actsD (xC X) k)
 rw [<- hT]
 unfold actsD xC at hT
 dsimp only at hT
 obtain ⟨m, hm⟩ := zn1 (X.c.mstatus)
 rw [<- hm] at c38 hT hs
 have p1 : bits .and .i64 (m : Int) 131072 = ((m &&& 131072 : Nat) : Int) := b_and m 131072 (by omega) (by omega)
 have p2 := ne0 (m &&& 131072)
 have e1 : decide (m &&& 131072 = 0) = !bitN m 17 := t_bit m 17
 rw [e1, Bool.not_not, <- p1] at p2
 have p3 : bits .and .i64 (m : Int) 6144 = ((m &&& 6144 : Nat) : Int) := b_and m 6144 (by omega) (by omega)
 have p4 : ((m &&& 6144 : Nat) : Int) / 2048 = ((m / 2048 % 4 : Nat) : Int) := by rw [<- and6144]; simp
 rw [<- p3] at p4
 obtain ⟨r, hr⟩ := zn1 (m / 2048 % 4)
 rw [<- hr] at p4 hT
 rw [<- bitN_val] at hT
 clear hm hr p1 e1 p3
 by_cases hk : k = 0
 . subst hk
   have HT : Hid (T = X.mode) := by rw [hT]; rfl
   clear hT
   go_enter func331, ntmps331
   exact zq230
 . have q : (k != 0) = true := by simp [hk]
   rw [if_neg (by simp [hk])] at hT
   cases hb : bitN m 17 with
   | true =>
    rw [hb] at p2 hT
    have HT : Hid (T = r) := by rw [hT]; rfl
    clear hT hb hk
    go_enter func331, ntmps331
    go_wp2_with fail
    go_ret
    exact ⟨by rw [HT.out] <;> rfl, rfl⟩
   | false =>
    rw [hb] at p2 hT
    have HT : Hid (T = X.mode) := by rw [hT]; rfl
    clear hT hb hk
    go_enter func331, ntmps331
    go_wp2_with fail
    go_ret
    exact ⟨by rw [HT.out] <;> rfl, rfl⟩
def pmtD (mxr : Bool) (k : Nat) : Nat := if k = 0 then 8 else if k = 2 then 4 else if mxr = true then 10 else 2
theorem x_permitting (mb rb : Nat) (X : XS) (hs : X.c.mstatus < 4294967296) (k : Nat) (w) (hw : Hid (XAt w mb rb X)) :
 CS 378 #[.pointer (some ⟨mb, 0, none⟩), .int .i64 k] (.int .i64 (pmtD (bitN X.c.mstatus 19) k)) w := by
 have c38 := hw.out.c38
 obtain ⟨m, hm⟩ := zn1 (X.c.mstatus)
 rw [<- hm] at c38 hs |-
 have p1 : bits .and .i64 (m : Int) 524288 = ((m &&& 524288 : Nat) : Int) := b_and m 524288 (by omega) (by omega)
 have p2 := ne0 (m &&& 524288)
 have e1 : decide (m &&& 524288 = 0) = !bitN m 19 := t_bit m 19
 rw [e1, Bool.not_not, <- p1] at p2
 obtain ⟨b, hb⟩ := zn1 (bitN m 19)
 rw [<- hb] at p2 |-
 clear hm e1 p1 hb
 by_cases h0 : k = 0
 . subst h0
   exact zq231
 . have q0 : ((k : Int) == 0) = false := by simp; omega
   have q0' : (k == 0) = false := by simp; omega
   by_cases h2 : k = 2
   . subst h2
     exact zq231
   . have q2 : ((k : Int) == 2) = false := by simp; omega
     have q2' : (k == 2) = false := by simp; omega
     have HP : Hid (pmtD b k = if b = true then 10 else 2) := by show _ = _; unfold pmtD; rw [if_neg h0, if_neg h2]
     clear h0 h2
     cases b
     all_goals
      go_enter func378, ntmps378
      go_wp2_with fail
      go_ret
      exact ⟨ret_intE (by rw [HP.out]; rfl), rfl⟩
theorem pmt_ne (e k : Nat) (hk : k = 0 \/ k = 1 \/ k = 2) (mxr : Bool) : (!decide (e &&& pmtD mxr k = 0)) = (if k = 0 then bitN e 3 else if k = 1 then (if bitN e 1 = true then true else if mxr = true then bitN e 3 else false) else bitN e 2) := by
 have h8 : decide (e &&& 8 = 0) = !bitN e 3 := t_bit e 3
 have h4 : decide (e &&& 4 = 0) = !bitN e 2 := t_bit e 2
 have h2 : decide (e &&& 2 = 0) = !bitN e 1 := t_bit e 1
 have h10 := t_and10 e
 rcases hk with rfl | rfl | rfl
 . show (!decide (e &&& 8 = 0)) = _; rw [h8]; simp
 . cases mxr
   . show (!decide (e &&& 2 = 0)) = _; rw [h2]; cases bitN e 1 <;> rfl
   . show (!decide (e &&& 10 = 0)) = _; rw [h10]; cases bitN e 1 <;> cases bitN e 3 <;> rfl
 . show (!decide (e &&& 4 = 0)) = _; rw [h4]; simp
theorem pmt_lt (b : Bool) (k : Nat) : pmtD b k < 16 := by
 unfold pmtD; repeat' split
 all_goals omega
theorem x_permits (mb rb : Nat) (X : XS) (hs : X.c.mstatus < 4294967296) (e mode k : Nat) (he : e < 4294967296) (hm : mode = 0 \/ mode = 1) (hk : k = 0 \/ k = 1 \/ k = 2) (w) (hw : Hid (XAt w mb rb X)) :
 CS 333 #[.pointer (some ⟨mb, 0, none⟩), .int .i64 e, .int .i64 mode, .int .i64 k] (.bool (allD (xC X) e k mode)) w := by
 have c38 := hw.out.c38
 have PM := hide1 (x_permitting mb rb X hs k w hw)
 have p0 : bits .and .i64 (e : Int) 16 = ((e &&& 16 : Nat) : Int) := b_and e 16 (by omega) (by omega)
 have p1 := ne0 (e &&& 16)
 rw [t_and16, Bool.not_not, <- p0] at p1
 obtain ⟨T, hT⟩ := zn1 (allD (xC X) e k mode)
 rw [<- hT]
 unfold allD allB xC at hT
 dsimp only at hT
 obtain ⟨m, hmm⟩ := zn1 (X.c.mstatus)
 rw [<- hmm] at c38 PM hT hs
 have s1 : bits .and .i64 (m : Int) 262144 = ((m &&& 262144 : Nat) : Int) := b_and m 262144 (by omega) (by omega)
 have s2 : (bits .and .i64 (m : Int) 262144 == 0) = !bitN m 18 := by
  rw [s1, <- t_bit m 18]
  by_cases h : m &&& 2 ^ 18 = 0 <;> simp [h] <;> exact h
 obtain ⟨u, hu⟩ := zn1 (bitN e 4)
 obtain ⟨sm, hsm⟩ := zn1 (bitN m 18)
 rw [<- bitN_val, <- bitN_val, <- hu, <- hsm] at hT
 rw [<- hu] at p1
 rw [<- hsm] at s2
 have q1 := pmt_ne e k hk (bitN m 19)
 have ql := pmt_lt (bitN m 19) k
 obtain ⟨pm, hpm⟩ := zn1 (pmtD (bitN m 19) k)
 rw [<- hpm] at q1 ql PM
 have r1 := b_and e pm (by omega) (by omega)
 have r2 := ne0 (e &&& pm)
 rw [<- r1, q1] at r2
 obtain ⟨V, hV⟩ := zn1 ((if k = 0 then bitN e 3 else if k = 1 then (if bitN e 1 = true then true else if bitN m 19 = true then bitN e 3 else false) else bitN e 2))
 rw [<- hV] at r2 hT
 clear p0 hmm s1 hu hsm hpm r1 hV q1
 have FINISH : True := trivial
 rcases hm with rfl | rfl
 . cases u
   . exact zq232
   . exact zq233
 . cases u
   . exact zq233
   . by_cases h0 : k = 0
     . subst h0
       exact zq232
     . have q0 : ((k : Int) == 0) = false := by simp; omega
       have q0' : (k == 0) = false := by simp; omega
       cases sm
       . have HT : Hid (T = false) := by rw [hT]; show _ = _; simp
         exact zq234
       . have HT : Hid (T = V) := by rw [hT]; show _ = _; simp [h0]
         exact zq234
def tabD (B : BusS) (a : Nat) : Nat × Nat :=
 if holdsD (a : Nat) 4 B.ram.length = false then (0, 2)
 else if bitN (entE B a) 0 = false \/ (bitN (entE B a) 2 = true /\ bitN (entE B a) 1 = false) then (0, 1)
 else (entE B a, 0)
theorem eq0 (n : Nat) : ((n : Int) == 0) = decide (n = 0) := by by_cases h : n = 0 <;> simp [h]
theorem x_tableEntry (mb rb : Nat) (X : XS) (hram : X.b.ram.length <= 65536) (a : Nat) (ha : a < 68719476736) (w) (hw : Hid (XAt w mb rb X)) :
 CS 375 #[.pointer (some ⟨mb, 0, none⟩), .int .i64 a] (.tuple #[.int .i64 (tabD X.b a).1, .int .i64 (tabD X.b a).2]) w := by
 have I : Hid (CS 261 #[.pointer (some ⟨mb, 0, none⟩), .int .i64 a, .int .i64 4] (.bool (holdsD a 4 X.b.ram.length)) w) := hide1 (x_isRam mb rb X hram a 4 (by omega) (by omega) (by omega) (by omega) w hw)
 unfold tabD
 cases hh : holdsD (a : Nat) 4 X.b.ram.length with
 | false =>
  rw [hh] at I
  rw [if_pos rfl]
  clear hh
  go_enter func375, ntmps375
  go_wp2_with (go_at_call 261; refine I.out.mono ?_; rintro e w1 ⟨rfl, rfl⟩)
  go_ret2
  exact ⟨rfl, rfl⟩
 | true =>
  rw [hh] at I
  rw [if_neg (by simp)]
  obtain ⟨h1, h2⟩ := holdsD_at hh
  have R : Hid (CS 262 #[.pointer (some ⟨mb, 0, none⟩), .int .i64 a, .int .i64 4] (.int .i64 (entE X.b a)) w) := hide1 (x_ramNumber_yes mb rb X hram a (a - 2147483648) 4 (by omega) (by omega) (by omega) h2 w hw)
  have hl := entE_lt X.b a
  obtain ⟨e, hE⟩ := zn1 (entE X.b a)
  rw [<- hE] at R hl |-
  have p1 : bits .and .i64 (e : Int) 1 = ((e &&& 1 : Nat) : Int) := b_and e 1 (by omega) (by omega)
  have p2 := eq0 (e &&& 1)
  rw [t_and1, <- p1] at p2
  have p3 : bits .and .i64 (e : Int) 6 = ((e &&& 6 : Nat) : Int) := b_and e 6 (by omega) (by omega)
  have p4 : (bits .and .i64 (e : Int) 6 == 4) = (bitN e 2 && !bitN e 1) := by
   rw [p3, <- t_and6]; by_cases h : e &&& 6 = 4 <;> simp [h]; omega
  clear p1 p3 hh hE h1 h2
  cases h0 : bitN e 0 with
  | false =>
   rw [h0] at p2
   rw [if_pos (.inl rfl)]
   clear h0
   go_enter func375, ntmps375
   go_wp2_with (first | (go_at_call 261; refine I.out.mono ?_; rintro e w1 ⟨rfl, rfl⟩) | (go_at_call 262; refine R.out.mono ?_; rintro e w1 ⟨rfl, rfl⟩))
   go_ret2
   exact ⟨rfl, rfl⟩
  | true =>
   rw [h0] at p2
   cases h2 : bitN e 2 with
   | false =>
    rw [h2] at p4
    rw [if_neg (by simp)]
    clear h0 h2
    go_enter func375, ntmps375
    go_wp2_with (first | (go_at_call 261; refine I.out.mono ?_; rintro e w1 ⟨rfl, rfl⟩) | (go_at_call 262; refine R.out.mono ?_; rintro e w1 ⟨rfl, rfl⟩))
    go_ret2
    exact ⟨rfl, rfl⟩
   | true =>
    rw [h2] at p4
    cases h1 : bitN e 1 with
    | false =>
     rw [h1] at p4
     rw [if_pos (.inr ⟨rfl, rfl⟩)]
     clear h0 h2 h1
     go_enter func375, ntmps375
     go_wp2_with (first | (go_at_call 261; refine I.out.mono ?_; rintro e w1 ⟨rfl, rfl⟩) | (go_at_call 262; refine R.out.mono ?_; rintro e w1 ⟨rfl, rfl⟩))
     go_ret2
     exact ⟨rfl, rfl⟩
    | true =>
     rw [h1] at p4
     rw [if_neg (by simp)]
     clear h0 h2 h1
     go_enter func375, ntmps375
     go_wp2_with (first | (go_at_call 261; refine I.out.mono ?_; rintro e w1 ⟨rfl, rfl⟩) | (go_at_call 262; refine R.out.mono ?_; rintro e w1 ⟨rfl, rfl⟩))
     go_ret2
     exact ⟨rfl, rfl⟩
end Go.Proofs.YtmlgonbhoknoiabGreatDoor
