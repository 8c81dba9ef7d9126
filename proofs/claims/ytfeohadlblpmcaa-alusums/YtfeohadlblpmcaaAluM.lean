/-
  Plain facts on operators of 32 bits and on shifts. No program in sight.
-/
import Derived.Test.YtfeohadlblpmcaaAluC
namespace Go.Proofs.Ytfeohadlblpmcaa
open Go.RowKit

theorem bit_two (x : Int) : x % 2 = 0 ∨ x % 2 = 1 := by omega
theorem sext32_eq (x : Int) : sextI x 32 = ((x + 2147483648) % 4294967296 - 2147483648) % 18446744073709551616 := by
  unfold sextI; rw [if_pos (by decide)]; rfl
theorem sext_mod (x y : Int) (h : x % 4294967296 = y % 4294967296) : sextI x 32 = sextI y 32 := by
  rw [sext32_eq, sext32_eq]; omega
theorem sext32_mod (x : Int) : sextI x 32 % 4294967296 = x % 4294967296 := by rw [sext32_eq]; omega
theorem quo_pow (s : Int) (n : Nat) (L : Int) (hL : 0 ≤ L) (h1 : -L ≤ s) (h2 : s < L) : -L ≤ s / 2 ^ n ∧ s / 2 ^ n < L := by
  have hp := pow_pos' n
  constructor
  · rw [Int.le_ediv_iff_mul_le hp]
    have := Int.mul_le_mul_of_nonneg_left (show (1 : Int) ≤ 2 ^ n by omega) hL
    rw [Int.neg_mul]; omega
  · rw [Int.ediv_lt_iff_lt_mul hp]
    have := Int.mul_le_mul_of_nonneg_left (show (1 : Int) ≤ 2 ^ n by omega) hL
    omega
theorem ref_srl (a : Int) (k : Nat) (ha0 : 0 ≤ a) (ha : a < 18446744073709551616) : rightI a 0 k = a / 2 ^ k := by
  have h := quo_le a (2 ^ k) ha0 (pow_pos' k)
  unfold rightI; rw [Int.zero_mul, Int.sub_zero]; omega
theorem ref_sra (a : Int) (k : Nat) (ha0 : 0 ≤ a) (ha : a < 18446744073709551616) : rightI a (a / 9223372036854775808 % 2) k = IntKind.u64.wrap (wrap64 a / 2 ^ k) := by
  have e : a - a / 9223372036854775808 % 2 * 18446744073709551616 = wrap64 a := by unfold wrap64; omega
  unfold rightI; rw [e, IntKind.wrap_u64]
theorem ref_sraw (A : Int) (j : Nat) (hA0 : 0 ≤ A) (hA : A < 4294967296) : rightI (sextI A 32) (A / 2147483648 % 2) j = sextI (wrap32 A / 2 ^ j % 4294967296) 32 := by
  have e : sextI A 32 - A / 2147483648 % 2 * 18446744073709551616 = wrap32 A := by rw [sext32_eq]; unfold wrap32; omega
  have hw : -2147483648 ≤ wrap32 A ∧ wrap32 A < 2147483648 := by unfold wrap32; omega
  have hq := quo_pow (wrap32 A) j 2147483648 (by decide) hw.1 hw.2
  unfold rightI
  rw [e, sext32_eq]
  generalize wrap32 A / 2 ^ j = t at *
  omega
end Go.Proofs.Ytfeohadlblpmcaa
