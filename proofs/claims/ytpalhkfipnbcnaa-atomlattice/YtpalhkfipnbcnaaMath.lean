/-
  Plain facts on whole numbers, as words of 64 bits: filled by a sign, products' upper halves, quotients. No program in sight.
-/
import Derived.WalkKit
namespace Go.Proofs.Ytpalhkfipnbcnaa
open Go.RowKit

theorem pow_pos' (n : Nat) : (0 : Int) < 2 ^ n := Int.pow_pos (by decide)
theorem pow_split (a b : Nat) : (2 : Int) ^ (a + b) = 2 ^ a * 2 ^ b := Int.pow_add 2 a b
theorem pow_half (b : Nat) (h : 1 ≤ b) : (2 : Int) ^ b = 2 * 2 ^ (b - 1) := by
  have e : b = 1 + (b - 1) := by omega
  rw [e, Int.pow_add]; simp
theorem pow64 (b : Nat) (h : b ≤ 64) : (2 : Int) ^ (64 - b) * 2 ^ b = 18446744073709551616 := by
  rw [← Int.pow_add, show 64 - b + b = 64 by omega]; rfl
theorem pow63 (b : Nat) (h : 1 ≤ b) (h' : b ≤ 64) : (2 : Int) ^ (64 - b) * 2 ^ (b - 1) = 9223372036854775808 := by
  rw [← Int.pow_add, show 64 - b + (b - 1) = 63 by omega]; rfl

/-- x's lowest b bits as a number with a sign. -/
def low (x : Int) (b : Nat) : Int := (x + 2 ^ (b - 1)) % 2 ^ b - 2 ^ (b - 1)
/-- the same as a word. -/
def sx (x : Int) (b : Nat) : Int := low x b % 18446744073709551616

theorem low_lo (x : Int) (b : Nat) : -(2 ^ (b - 1)) ≤ low x b := by
  have h := Int.emod_nonneg (x + 2 ^ (b - 1)) (Int.ne_of_gt (pow_pos' b))
  unfold low; omega
theorem low_hi (x : Int) (b : Nat) (h : 1 ≤ b) : low x b < 2 ^ (b - 1) := by
  have h1 := Int.emod_lt_of_pos (x + 2 ^ (b - 1)) (pow_pos' b)
  have h2 := pow_half b h
  unfold low; omega
theorem low_eq (x : Int) (b : Nat) : ∃ q, x = low x b + 2 ^ b * q := by
  refine ⟨(x + 2 ^ (b - 1)) / 2 ^ b, ?_⟩
  have h := Int.emod_add_mul_ediv (x + 2 ^ (b - 1)) (2 ^ b)
  unfold low; omega
theorem low_unique (x y q : Int) (b : Nat) (h : 1 ≤ b) (he : x = y + 2 ^ b * q) (h1 : -(2 ^ (b - 1)) ≤ y) (h2 : y < 2 ^ (b - 1)) : low x b = y := by
  have h3 := pow_half b h
  unfold low
  rw [he, show y + 2 ^ b * q + 2 ^ (b - 1) = (y + 2 ^ (b - 1)) + 2 ^ b * q by omega, Int.add_mul_emod_self_left, Int.emod_eq_of_lt (by omega) (by omega)]
  omega
theorem sx_bd (x : Int) (b : Nat) : 0 ≤ sx x b ∧ sx x b < 18446744073709551616 := by unfold sx; omega
theorem sx_eq (x : Int) (b : Nat) (h : b ≤ 64) : ∃ q, sx x b = low x b + 2 ^ b * q := by
  refine ⟨2 ^ (64 - b) * (-(low x b / 18446744073709551616)), ?_⟩
  have h1 := pow64 b h
  have h2 := Int.emod_add_mul_ediv (low x b) 18446744073709551616
  rw [← Int.mul_assoc, Int.mul_comm (2 ^ b), h1]
  unfold sx; omega
theorem low_mono (p q : Nat) (h : 1 ≤ p) (hpq : p ≤ q) : (2 : Int) ^ (p - 1) ≤ 2 ^ (q - 1) ∧ (2 : Int) ^ q = 2 ^ p * 2 ^ (q - p) := by
  constructor
  · have e : (2 : Int) ^ (q - 1) = 2 ^ (p - 1) * 2 ^ (q - p) := by rw [← Int.pow_add]; congr 1; omega
    have h1 := pow_pos' (p - 1)
    have h2 := pow_pos' (q - p)
    rw [e]
    have := Int.mul_le_mul_of_nonneg_left (show (1 : Int) ≤ 2 ^ (q - p) by omega) (Int.le_of_lt h1)
    omega
  · rw [← Int.pow_add]; congr 1; omega
theorem low_sx_up (x : Int) (p q : Nat) (hp : 1 ≤ p) (hpq : p ≤ q) (hq : q ≤ 64) : low (sx x p) q = low x p := by
  obtain ⟨h1, h2⟩ := low_mono p q hp hpq
  have hl := low_lo x p
  have hh := low_hi x p hp
  have h3 := pow64 q hq
  have h4 := Int.emod_add_mul_ediv (low x p) 18446744073709551616
  refine low_unique _ _ (2 ^ (64 - q) * (-(low x p / 18446744073709551616))) q (by omega) ?_ (by omega) (by omega)
  rw [← Int.mul_assoc, Int.mul_comm (2 ^ q), h3]
  unfold sx; omega
theorem low_sx_down (x : Int) (p q : Nat) (hq : 1 ≤ q) (hqp : q ≤ p) (hp : p ≤ 64) : low (sx x p) q = low x q := by
  obtain ⟨h1, h2⟩ := low_mono q p hq hqp
  obtain ⟨u, hu⟩ := low_eq x p
  obtain ⟨v, hv⟩ := sx_eq x p hp
  obtain ⟨t, ht⟩ := low_eq x q
  have hl := low_lo x q
  have hh := low_hi x q hq
  refine low_unique _ _ (t + 2 ^ (p - q) * (v - u)) q hq ?_ hl hh
  rw [Int.mul_add, ← Int.mul_assoc, ← h2, Int.mul_sub]
  omega
/-- Filled twice is filled by the fewest. -/
theorem sx_steps (x : Int) (p q : Nat) (hp : 1 ≤ p) (hq : 1 ≤ q) (hp' : p ≤ 64) (hq' : q ≤ 64) : sx (sx x p) q = sx x (min p q) := by
  rcases Nat.le_total p q with h | h
  · rw [Nat.min_eq_left h]; show low (sx x p) q % _ = low x p % _; rw [low_sx_up x p q hp h hq']
  · rw [Nat.min_eq_right h]; show low (sx x p) q % _ = low x q % _; rw [low_sx_down x p q hq h hp']

/-- To the left, and back with the sign. -/
theorem shifts (x : Int) (b : Nat) (h1 : 1 ≤ b) (h2 : b ≤ 64) : IntKind.u64.wrap (wrap64 (IntKind.u64.wrap (x * 2 ^ (64 - b))) / 2 ^ (64 - b)) = sx x b := by
  have hP := pow_pos' (64 - b)
  have h64 := pow64 b h2
  have h63 := pow63 b h1 h2
  obtain ⟨q, hq⟩ := low_eq x b
  have hl := low_lo x b
  have hh := low_hi x b h1
  have e1 : x * 2 ^ (64 - b) = low x b * 2 ^ (64 - b) + 18446744073709551616 * q := by
    rw [← h64, Int.mul_assoc, Int.mul_comm (2 ^ (64 - b)) (2 ^ b * q), ← Int.add_mul, ← hq]
  have a1 := Int.mul_le_mul_of_nonneg_right hl (Int.le_of_lt hP)
  have a2 := Int.mul_le_mul_of_nonneg_right (show low x b + 1 ≤ 2 ^ (b - 1) by omega) (Int.le_of_lt hP)
  rw [Int.neg_mul, Int.mul_comm (2 ^ (b - 1)), h63] at a1
  rw [Int.add_mul, Int.mul_comm (2 ^ (b - 1)), h63] at a2
  have e2 : wrap64 (IntKind.u64.wrap (x * 2 ^ (64 - b))) = low x b * 2 ^ (64 - b) := by
    rw [IntKind.wrap_u64, e1]; unfold wrap64
    generalize low x b * 2 ^ (64 - b) = t at *
    omega
  rw [e2, Int.mul_ediv_cancel _ (Int.ne_of_gt hP), IntKind.wrap_u64]
  rfl

/-! ### bits -/
theorem bit_shift (a t : Int) (n k : Nat) (h : k < n) : (a + 2 ^ n * t) / 2 ^ k % 2 = a / 2 ^ k % 2 := by
  have e : (2 : Int) ^ n * t = 2 ^ k * (2 * (2 ^ (n - k - 1) * t)) := by
    rw [show n = k + (1 + (n - k - 1)) by omega, Int.pow_add, Int.pow_add]
    rw [show k + (1 + (n - k - 1)) - k - 1 = n - k - 1 by omega]
    simp [Int.mul_assoc]
  rw [e, Int.add_mul_ediv_left _ _ (Int.ne_of_gt (pow_pos' k))]
  omega
theorem low_bit (x : Int) (b k : Nat) (h : k < b) : low x b / 2 ^ k % 2 = x / 2 ^ k % 2 := by
  obtain ⟨q, hq⟩ := low_eq x b
  have := bit_shift (low x b) q b k h
  rw [← hq] at this; exact this.symm
theorem sx_low_bit (x : Int) (b k : Nat) (hk : k < 64) : sx x b / 2 ^ k % 2 = low x b / 2 ^ k % 2 := by
  have h := bit_shift (sx x b) (low x b / 18446744073709551616) 64 k hk
  rw [← h]
  have h2 := Int.emod_add_mul_ediv (low x b) 18446744073709551616
  have e : sx x b + 2 ^ 64 * (low x b / 18446744073709551616) = low x b := by
    unfold sx; rw [show (2 : Int) ^ 64 = 18446744073709551616 from rfl]; omega
  rw [e]
theorem low_top (x : Int) (b k : Nat) (h : 1 ≤ b) (hk : b - 1 ≤ k) : low x b / 2 ^ k % 2 = low x b / 2 ^ (b - 1) % 2 := by
  have hl := low_lo x b
  have hh := low_hi x b h
  have hm := (low_mono b (k + 1) h (by omega)).1
  rw [show k + 1 - 1 = k by omega] at hm
  have hp := pow_pos' k
  have hp1 := pow_pos' (b - 1)
  by_cases hs : 0 ≤ low x b
  · rw [Int.ediv_eq_zero_of_lt hs (by omega), Int.ediv_eq_zero_of_lt hs (by omega)]
  · have e : ∀ d : Int, 0 < d → -d ≤ low x b → low x b / d = -1 := by
      intro d hd h0
      have e0 : low x b = (low x b + d) + d * (-1) := by omega
      rw [e0, Int.add_mul_ediv_left _ _ (Int.ne_of_gt hd), Int.ediv_eq_zero_of_lt (by omega) (by omega)]; rfl
    rw [e _ hp (by omega), e _ hp1 (by omega)]
/-- A filled word's bits. -/
theorem sx_bit (x : Int) (b k : Nat) (h : 1 ≤ b) (hk : k < 64) : sx x b / 2 ^ k % 2 = x / 2 ^ (min k (b - 1)) % 2 := by
  rw [sx_low_bit x b k hk]
  by_cases hkb : k < b
  · rw [low_bit x b k hkb, Nat.min_eq_left (by omega)]
  · rw [low_top x b k h (by omega), low_bit x b (b - 1) (by omega), Nat.min_eq_right (by omega)]
/-- One bit more. -/
theorem or_bit (S : Int) (k : Nat) (hk : k < 64) :
    bits .or .u64 (S % 2 ^ k) (IntKind.u64.wrap (S / 2 ^ k % 2 * 2 ^ k)) = S % 2 ^ (k + 1) := by
  have hp := pow_pos' k
  have h0 := Int.emod_nonneg S (Int.ne_of_gt hp)
  have h1 := Int.emod_lt_of_pos S hp
  have hb : S / 2 ^ k % 2 = 0 ∨ S / 2 ^ k % 2 = 1 := by omega
  have hle : (2 : Int) ^ k ≤ 9223372036854775808 := by
    have := (low_mono (k + 1) 64 (by omega) (by omega)).1
    simpa using this
  have eS : S % 2 ^ (k + 1) = S % 2 ^ k + S / 2 ^ k % 2 * 2 ^ k := by
    have e1 := Int.emod_add_mul_ediv S (2 ^ k)
    have e2 := Int.emod_add_mul_ediv (S / 2 ^ k) 2
    have e3 : S = (S % 2 ^ k + S / 2 ^ k % 2 * 2 ^ k) + 2 ^ (k + 1) * (S / 2 ^ k / 2) := by
      have : (2 : Int) ^ (k + 1) = 2 ^ k * 2 := Int.pow_succ 2 k
      rw [this, Int.mul_assoc, Int.add_assoc, Int.mul_comm (S / 2 ^ k % 2), ← Int.mul_add, e2, e1]
    have hp2 : (2 : Int) ^ (k + 1) = 2 * 2 ^ k := by rw [Int.pow_succ, Int.mul_comm]
    have hlt : S % 2 ^ k + S / 2 ^ k % 2 * 2 ^ k < 2 ^ (k + 1) := by
      rcases hb with hb | hb <;> rw [hb, hp2] <;> omega
    have hge : 0 ≤ S % 2 ^ k + S / 2 ^ k % 2 * 2 ^ k := by rcases hb with hb | hb <;> rw [hb] <;> omega
    generalize hT : S % 2 ^ k + S / 2 ^ k % 2 * 2 ^ k = T at *
    rw [e3, Int.add_mul_emod_self_left, Int.emod_eq_of_lt hge hlt]
  rw [eS, IntKind.wrap_u64]
  obtain ⟨A, hA⟩ := Int.eq_ofNat_of_zero_le h0
  rcases hb with hb | hb
  · rw [hb]; simp only [Int.zero_mul, Int.add_zero]
    rw [hA]
    have := u64_or_nat A 0 (by omega) (by decide)
    simpa using this
  · rw [hb, Int.one_mul, Int.emod_eq_of_lt (Int.le_of_lt hp) (by omega), hA]
    have e2 : (2 : Int) ^ k = ((2 ^ k : Nat) : Int) := by simp
    rw [e2, u64_or_nat A (2 ^ k) (by omega) (by omega), Nat.or_comm, nat_join k (2 ^ k) A (Nat.mod_self _) (by omega), Nat.add_comm, Int.natCast_add]
end Go.Proofs.Ytpalhkfipnbcnaa
