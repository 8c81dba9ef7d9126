/-
  Plain facts on whole numbers: long division bit by bit, upper halves of products by halves of 32 bits, signs. No program in sight.
-/
import Derived.Test.YtfeohadlblpmcaaMath
namespace Go.Proofs.Ytfeohadlblpmcaa
open Go.RowKit

/-- A word whose highest bit is set. -/
def isNeg (x : Int) : Bool := x / 2 ^ 63 % 2 == 1
theorem isNeg_iff (x : Int) (h0 : 0 ≤ x) (h : x < 18446744073709551616) : isNeg x = true ↔ 9223372036854775808 ≤ x := by
  unfold isNeg; rw [beq_iff_eq, show (2 : Int) ^ 63 = 9223372036854775808 from rfl]; omega
theorem isNeg_wrap (x : Int) (h0 : 0 ≤ x) (h : x < 18446744073709551616) : isNeg x = true ↔ wrap64 x < 0 := by
  rw [isNeg_iff x h0 h]; unfold wrap64; omega

theorem or_low (x c : Int) (hc : c = 0 ∨ c = 1) : bits .or .u64 (IntKind.u64.wrap (x * 2)) c = x * 2 % 18446744073709551616 + c := by
  rw [IntKind.wrap_u64]
  obtain ⟨A, hA⟩ := Int.eq_ofNat_of_zero_le (show 0 ≤ x * 2 % 18446744073709551616 by omega)
  obtain ⟨C, hC⟩ := Int.eq_ofNat_of_zero_le (show 0 ≤ c by omega)
  have h2 : A % 2 = 0 := by omega
  have hC2 : C < 2 := by omega
  rw [hA, hC, u64_or_nat A C (by omega) (by omega), nat_join 1 A C (by simpa using h2) (by simpa using hC2), Int.natCast_add]

/-! ### long division -/
theorem div_step (A c b : Int) (hb0 : 0 < b) :
    (b ≤ A % b * 2 + c → c ≤ 1 → (A * 2 + c) / b = A / b * 2 + 1 ∧ (A * 2 + c) % b = A % b * 2 + c - b) ∧
    (A % b * 2 + c < b → 0 ≤ c → (A * 2 + c) / b = A / b * 2 ∧ (A * 2 + c) % b = A % b * 2 + c) := by
  have hr0 := Int.emod_nonneg A (Int.ne_of_gt hb0)
  have hr1 := Int.emod_lt_of_pos A hb0
  have e := Int.emod_add_mul_ediv A b
  constructor
  · intro h hc
    have e1 : A * 2 + c = (A % b * 2 + c - b) + b * (A / b * 2 + 1) := by rw [Int.mul_add, ← Int.mul_assoc]; omega
    rw [e1, Int.add_mul_ediv_left _ _ (Int.ne_of_gt hb0), Int.add_mul_emod_self_left, Int.ediv_eq_zero_of_lt (by omega) (by omega), Int.emod_eq_of_lt (by omega) (by omega)]
    omega
  · intro h hc
    have e1 : A * 2 + c = (A % b * 2 + c) + b * (A / b * 2) := by rw [← Int.mul_assoc]; omega
    rw [e1, Int.add_mul_ediv_left _ _ (Int.ne_of_gt hb0), Int.add_mul_emod_self_left, Int.ediv_eq_zero_of_lt (by omega) (by omega), Int.emod_eq_of_lt (by omega) (by omega)]
    omega
theorem div_next (a : Int) (k : Nat) (hk : k < 64) : a / 2 ^ (64 - (k + 1)) = a / 2 ^ (64 - k) * 2 + a / 2 ^ (64 - (k + 1)) % 2 := by
  have e : (2 : Int) ^ (64 - k) = 2 ^ (64 - (k + 1)) * 2 := by rw [← Int.pow_succ]; congr 1; omega
  rw [e, ← Int.ediv_ediv_of_nonneg (Int.le_of_lt (pow_pos' _))]
  omega
theorem part_le (a : Int) (n : Nat) (h0 : 0 ≤ a) : 0 ≤ a / 2 ^ n ∧ a / 2 ^ n ≤ a :=
  ⟨Int.ediv_nonneg h0 (Int.le_of_lt (pow_pos' _)), Int.ediv_le_self _ h0⟩
theorem quo_le (a b : Int) (h0 : 0 ≤ a) (hb : 0 < b) : 0 ≤ a / b ∧ a / b ≤ a := ⟨Int.ediv_nonneg h0 (by omega), Int.ediv_le_self _ h0⟩
/-- A round in which the divisor goes in. -/
theorem div_yes (a b q r c : Int) (k : Nat) (hk : k < 64) (ha0 : 0 ≤ a) (ha : a < 18446744073709551616) (hb0 : 0 < b) (hb : b < 18446744073709551616)
    (hq : a / 2 ^ (64 - k) / b = q) (hr : a / 2 ^ (64 - k) % b = r) (hc : a / 2 ^ (64 - (k + 1)) % 2 = c)
    (h : isNeg r = true ∨ b ≤ bits .or .u64 (IntKind.u64.wrap (r * 2)) c) :
    bits .or .u64 (IntKind.u64.wrap (q * 2)) 1 = a / 2 ^ (64 - (k + 1)) / b ∧ IntKind.u64.wrap (bits .or .u64 (IntKind.u64.wrap (r * 2)) c - b) = a / 2 ^ (64 - (k + 1)) % b := by
  have hn := div_next a k hk
  rw [hc] at hn
  have hc2 : c = 0 ∨ c = 1 := by omega
  have hr0 := Int.emod_nonneg (a / 2 ^ (64 - k)) (Int.ne_of_gt hb0)
  have hr1 := Int.emod_lt_of_pos (a / 2 ^ (64 - k)) hb0
  have hp := part_le a (64 - (k + 1)) ha0
  rw [or_low r c hc2] at h ⊢
  rw [or_low q 1 (by omega), IntKind.wrap_u64]
  have hs := (div_step (a / 2 ^ (64 - k)) c b hb0).1
  have hl := quo_le (a / 2 ^ (64 - (k + 1))) b hp.1 hb0
  rw [hq, hr] at hs
  rw [hr] at hr0 hr1
  rw [isNeg_iff r hr0 (by omega)] at h
  generalize hA : a / 2 ^ (64 - (k + 1)) = A' at *
  rw [← hn] at hs
  have hs2 := hs (by omega) (by omega)
  omega
/-- A round in which it does not. -/
theorem div_no (a b q r c : Int) (k : Nat) (hk : k < 64) (ha0 : 0 ≤ a) (ha : a < 18446744073709551616) (hb0 : 0 < b) (hb : b < 18446744073709551616)
    (hq : a / 2 ^ (64 - k) / b = q) (hr : a / 2 ^ (64 - k) % b = r) (hc : a / 2 ^ (64 - (k + 1)) % 2 = c)
    (h1 : ¬ isNeg r = true) (h : bits .or .u64 (IntKind.u64.wrap (r * 2)) c < b) :
    IntKind.u64.wrap (q * 2) = a / 2 ^ (64 - (k + 1)) / b ∧ bits .or .u64 (IntKind.u64.wrap (r * 2)) c = a / 2 ^ (64 - (k + 1)) % b := by
  have hn := div_next a k hk
  rw [hc] at hn
  have hc2 : c = 0 ∨ c = 1 := by omega
  have hr0 := Int.emod_nonneg (a / 2 ^ (64 - k)) (Int.ne_of_gt hb0)
  have hr1 := Int.emod_lt_of_pos (a / 2 ^ (64 - k)) hb0
  have hp := part_le a (64 - (k + 1)) ha0
  rw [or_low r c hc2] at h ⊢
  rw [IntKind.wrap_u64]
  have hs := (div_step (a / 2 ^ (64 - k)) c b hb0).2
  have hl := quo_le (a / 2 ^ (64 - (k + 1))) b hp.1 hb0
  rw [hq, hr] at hs
  rw [hr] at hr0 hr1
  rw [isNeg_iff r hr0 (by omega)] at h1
  generalize hA : a / 2 ^ (64 - (k + 1)) = A' at *
  rw [← hn] at hs
  have hs2 := hs (by omega) (by omega)
  omega

/-! ### products -/
theorem and32 (x : Int) (h0 : 0 ≤ x) (h : x < 18446744073709551616) : bits .and .u64 x 4294967295 = x % 4294967296 := by
  obtain ⟨X, rfl⟩ := Int.eq_ofNat_of_zero_le h0
  have e : X &&& 4294967295 = X % 4294967296 := Nat.and_two_pow_sub_one_eq_mod X 32
  have := u64_and_nat X 4294967295 (by omega) (by decide)
  rw [e] at this
  exact this
theorem mul_bd (x y : Int) (hx0 : 0 ≤ x) (hx : x ≤ 4294967295) (hy0 : 0 ≤ y) (hy : y ≤ 4294967295) : 0 ≤ x * y ∧ x * y ≤ 18446744065119617025 := by
  refine ⟨Int.mul_nonneg hx0 hy0, ?_⟩
  have h1 := Int.mul_le_mul hx hy hy0 (by omega : (0 : Int) ≤ 4294967295)
  omega
theorem mul_parts (a b : Int) : a * b = a / 4294967296 * (b / 4294967296) * 18446744073709551616 + (a / 4294967296 * (b % 4294967296) + a % 4294967296 * (b / 4294967296)) * 4294967296 + a % 4294967296 * (b % 4294967296) := by
  have ea := Int.emod_add_mul_ediv a 4294967296
  have eb := Int.emod_add_mul_ediv b 4294967296
  generalize a / 4294967296 = a1 at *
  generalize b / 4294967296 = b1 at *
  generalize a % 4294967296 = a0 at *
  generalize b % 4294967296 = b0 at *
  rw [← ea, ← eb, Int.add_mul, Int.mul_add, Int.mul_add]
  have e1 : a0 * (4294967296 * b1) = a0 * b1 * 4294967296 := by rw [Int.mul_comm 4294967296 b1, Int.mul_assoc]
  have e2 : 4294967296 * a1 * b0 = a1 * b0 * 4294967296 := by rw [Int.mul_assoc, Int.mul_comm]
  have e3 : 4294967296 * a1 * (4294967296 * b1) = a1 * b1 * 18446744073709551616 := by
    rw [Int.mul_comm 4294967296 b1, Int.mul_comm 4294967296 a1, Int.mul_assoc, ← Int.mul_assoc 4294967296, Int.mul_comm 4294967296 b1, ← Int.mul_assoc, ← Int.mul_assoc, Int.mul_assoc (a1 * b1)]
    rfl
  rw [e1, e2, e3]
  omega
theorem mulhi (a b : Int) (ha0 : 0 ≤ a) (ha : a < 18446744073709551616) (hb0 : 0 ≤ b) (hb : b < 18446744073709551616) :
    IntKind.u64.wrap (IntKind.u64.wrap (IntKind.u64.wrap (a / 4294967296 * (b / 4294967296)) +
      IntKind.u64.wrap (IntKind.u64.wrap (a / 4294967296 * bits .and .u64 b 4294967295) + IntKind.u64.wrap (bits .and .u64 a 4294967295 * bits .and .u64 b 4294967295) / 4294967296) / 4294967296) +
      IntKind.u64.wrap (bits .and .u64 (IntKind.u64.wrap (IntKind.u64.wrap (a / 4294967296 * bits .and .u64 b 4294967295) + IntKind.u64.wrap (bits .and .u64 a 4294967295 * bits .and .u64 b 4294967295) / 4294967296)) 4294967295 +
        IntKind.u64.wrap (bits .and .u64 a 4294967295 * (b / 4294967296))) / 4294967296) = a * b / 18446744073709551616 := by
  have hp := mul_parts a b
  have b1 := mul_bd (a / 4294967296) (b / 4294967296) (by omega) (by omega) (by omega) (by omega)
  have b2 := mul_bd (a / 4294967296) (b % 4294967296) (by omega) (by omega) (by omega) (by omega)
  have b3 := mul_bd (a % 4294967296) (b / 4294967296) (by omega) (by omega) (by omega) (by omega)
  have b4 := mul_bd (a % 4294967296) (b % 4294967296) (by omega) (by omega) (by omega) (by omega)
  rw [and32 a ha0 ha, and32 b hb0 hb, hp]
  generalize a / 4294967296 * (b / 4294967296) = s at *
  generalize a / 4294967296 * (b % 4294967296) = q at *
  generalize a % 4294967296 * (b / 4294967296) = r at *
  generalize a % 4294967296 * (b % 4294967296) = p at *
  simp only [IntKind.wrap_u64]
  have e1 : s % 18446744073709551616 = s := by omega
  have e2 : q % 18446744073709551616 = q := by omega
  have e3 : r % 18446744073709551616 = r := by omega
  have e4 : p % 18446744073709551616 = p := by omega
  have e5 : (q + p / 4294967296) % 18446744073709551616 = q + p / 4294967296 := by omega
  rw [e1, e2, e3, e4, e5, and32 _ (by omega) (by omega)]
  omega
theorem mulhi' (a b : Int) (ha0 : 0 ≤ a) (ha : a < 18446744073709551616) (hb0 : 0 ≤ b) (hb : b < 18446744073709551616) :
    a * b / 18446744073709551616 < 18446744073709551616 ∧ 0 ≤ a * b / 18446744073709551616 := by
  have hp := mul_parts a b
  have b1 := mul_bd (a / 4294967296) (b / 4294967296) (by omega) (by omega) (by omega) (by omega)
  have b2 := mul_bd (a / 4294967296) (b % 4294967296) (by omega) (by omega) (by omega) (by omega)
  have b3 := mul_bd (a % 4294967296) (b / 4294967296) (by omega) (by omega) (by omega) (by omega)
  have b4 := mul_bd (a % 4294967296) (b % 4294967296) (by omega) (by omega) (by omega) (by omega)
  omega

/-- The sign, and the size without it. -/
def sizeI (x : Int) : Int := if isNeg x then 18446744073709551616 - x else x
theorem size_wrap (x : Int) (h0 : 0 ≤ x) (h : x < 18446744073709551616) :
    0 ≤ sizeI x ∧ sizeI x < 18446744073709551616 ∧ wrap64 x = (if isNeg x then -sizeI x else sizeI x) ∧ (isNeg x = true → wrap64 x = x - 18446744073709551616) ∧ (isNeg x = false → wrap64 x = x) := by
  have hi := isNeg_iff x h0 h
  unfold sizeI wrap64
  cases hn : isNeg x
  · rw [hn] at hi; simp at hi; simp; omega
  · rw [hn] at hi; simp at hi; simp; omega
def mulhI (a b : Int) : Int := wrap64 a * wrap64 b / 18446744073709551616 % 18446744073709551616
def mulhsuI (a b : Int) : Int := wrap64 a * b / 18446744073709551616 % 18446744073709551616
def excessI (a b : Int) : Int := if isNeg a then b else 0
theorem mulhsu_word (a b : Int) (ha0 : 0 ≤ a) (ha : a < 18446744073709551616) :
    IntKind.u64.wrap (a * b / 18446744073709551616 - excessI a b) = mulhsuI a b := by
  have hw := size_wrap a ha0 ha
  rw [IntKind.wrap_u64]; unfold excessI mulhsuI
  cases hn : isNeg a
  · rw [hw.2.2.2.2 hn]; simp
  · rw [hw.2.2.2.1 hn, Int.sub_mul]; simp
    generalize a * b = X
    omega
theorem mulh_word (a b : Int) (ha0 : 0 ≤ a) (ha : a < 18446744073709551616) (hb0 : 0 ≤ b) (hb : b < 18446744073709551616) :
    IntKind.u64.wrap (mulhsuI a b - excessI b a) = mulhI a b := by
  have hw := size_wrap a ha0 ha
  have hv := size_wrap b hb0 hb
  rw [IntKind.wrap_u64]; unfold excessI mulhsuI mulhI
  cases hm : isNeg b
  · rw [hv.2.2.2.2 hm]; simp
  · cases hn : isNeg a
    · rw [hv.2.2.2.1 hm, hw.2.2.2.2 hn, Int.mul_sub]; simp
      generalize a * b = X
      omega
    · rw [hv.2.2.2.1 hm, hw.2.2.2.1 hn, Int.mul_sub, Int.sub_mul]; simp
      generalize a * b = X
      omega
def upperI (a b : Int) (m : Bool) : Int :=
  if m then (if a * b % 18446744073709551616 = 0 then (-(a * b / 18446744073709551616)) % 18446744073709551616 else (-1 - a * b / 18446744073709551616) % 18446744073709551616) else a * b / 18446744073709551616
theorem upper_neg (a b : Int) : upperI a b true = (-(a * b)) / 18446744073709551616 % 18446744073709551616 := by
  unfold upperI; simp only [if_true]
  generalize a * b = X
  split <;> omega
theorem upper_pos (a b : Int) (ha0 : 0 ≤ a) (ha : a < 18446744073709551616) (hb0 : 0 ≤ b) (hb : b < 18446744073709551616) : upperI a b false = a * b / 18446744073709551616 % 18446744073709551616 := by
  have := mulhi' a b ha0 ha hb0 hb
  unfold upperI; simp only [Bool.false_eq_true, if_false]
  generalize a * b = X at *
  omega
theorem mulh_ref (a b : Int) (ha0 : 0 ≤ a) (ha : a < 18446744073709551616) (hb0 : 0 ≤ b) (hb : b < 18446744073709551616) :
    upperI (sizeI a) (sizeI b) (isNeg a != isNeg b) = mulhI a b := by
  have hw := size_wrap a ha0 ha
  have hv := size_wrap b hb0 hb
  unfold mulhI
  rw [hw.2.2.1, hv.2.2.1]
  cases hn : isNeg a <;> cases hm : isNeg b
  · simp [upper_pos _ _ hw.1 hw.2.1 hv.1 hv.2.1]
  · simp [upper_neg, Int.mul_neg]
  · simp [upper_neg, Int.neg_mul]
  · simp [upper_pos _ _ hw.1 hw.2.1 hv.1 hv.2.1, Int.neg_mul_neg]
theorem mulhsu_ref (a b : Int) (ha0 : 0 ≤ a) (ha : a < 18446744073709551616) (hb0 : 0 ≤ b) (hb : b < 18446744073709551616) :
    upperI (sizeI a) b (isNeg a) = mulhsuI a b := by
  have hw := size_wrap a ha0 ha
  unfold mulhsuI
  rw [hw.2.2.1]
  cases hn : isNeg a
  · simp [upper_pos _ _ hw.1 hw.2.1 hb0 hb]
  · simp [upper_neg, Int.neg_mul]
end Go.Proofs.Ytfeohadlblpmcaa
