/-
  Plain facts: pieces laid into a word are a sum; the pieces of a word, laid back, are the word.
-/
import Derived.Test.YtionnhjldcpmjaaGreatDoorFacts
set_option linter.unusedVariables false
set_option linter.unusedSimpArgs false
namespace Go.Proofs.YtionnhjldcpmjaaGreatDoor
open Go.RowKit
deriving instance DecidableEq for Fm

theorem ly_add {s : Nat} (n : Int) {a m : Nat} (k : Nat) (h : s / 2 ^ a % 2 ^ m = 0) : ly s n a m k = s + gv n m k * 2 ^ a := by
  unfold ly
  have hx := gv_lt n m k
  generalize gv n m k = x at *
  have h1 := Nat.div_add_mod s (2 ^ a)
  have h2 := Nat.div_add_mod (s / 2 ^ a) (2 ^ m)
  have hL : s % 2 ^ a < 2 ^ a := Nat.mod_lt _ (Nat.two_pow_pos a)
  have hp : (2 : Nat) ^ (a + m) = 2 ^ a * 2 ^ m := Nat.pow_add 2 a m
  have e1 : s = s / 2 ^ a / 2 ^ m * 2 ^ (a + m) + s % 2 ^ a := by
    rw [h] at h2
    rw [hp]
    have e2 : s / 2 ^ a / 2 ^ m * (2 ^ a * 2 ^ m) = 2 ^ a * (2 ^ m * (s / 2 ^ a / 2 ^ m)) := by
      rw [Nat.mul_comm, Nat.mul_assoc]
    rw [e2]
    have e3 : 2 ^ m * (s / 2 ^ a / 2 ^ m) = s / 2 ^ a := by omega
    rw [e3]; omega
  generalize s / 2 ^ a / 2 ^ m = H at *
  generalize s % 2 ^ a = L at *
  have hb : x * 2 ^ a + L < 2 ^ (a + m) := by
    rw [hp]
    have : (x + 1) * 2 ^ a ≤ 2 ^ m * 2 ^ a := Nat.mul_le_mul_right _ hx
    rw [Nat.mul_comm (2 ^ a)]
    rw [Nat.add_mul] at this
    omega
  have hLb : L < 2 ^ (a + m) := by
    have := Nat.zero_le (x * 2 ^ a); omega
  rw [e1, ← nat_join (a + m) (H * 2 ^ (a + m)) L (Nat.mul_mod_left _ _) hLb, Nat.or_assoc, Nat.or_comm L, nat_join a (x * 2 ^ a) L (Nat.mul_mod_left _ _) hL,
    nat_join (a + m) (H * 2 ^ (a + m)) (x * 2 ^ a + L) (Nat.mul_mod_left _ _) hb, nat_join (a + m) (H * 2 ^ (a + m)) L (Nat.mul_mod_left _ _) hLb]
  omega
theorem gv_nat {p m : Nat} (h : p < 2 ^ m) : gv (p : Int) m 0 = p := by
  unfold gv
  have e : ((p : Int) / 2 ^ 0 % 2 ^ m) = (p : Int) := by
    rw [Int.pow_zero, Int.ediv_one]
    exact Int.emod_eq_of_lt (by omega) (by exact_mod_cast h)
  rw [e]; simp

/-! ### The pieces of a word -/
theorem word_parts (s : Nat) (hs : s < 4294967296) : s = pc s 0 7 + 128 * pc s 7 5 + 4096 * pc s 12 3 + 32768 * pc s 15 5 + 1048576 * pc s 20 5 + 33554432 * pc s 25 7 := by
  unfold pc; simp only [Nat.reducePow]; omega
theorem pc_20_12 (s : Nat) : pc s 20 12 = pc s 20 5 + 32 * pc s 25 7 := by unfold pc; simp only [Nat.reducePow]; omega
theorem pc_12_20 (s : Nat) : pc s 12 20 = pc s 12 3 + 8 * pc s 15 5 + 256 * pc s 20 5 + 8192 * pc s 25 7 := by unfold pc; simp only [Nat.reducePow]; omega
theorem pc_12_8 (s : Nat) : pc s 12 8 = pc s 12 3 + 8 * pc s 15 5 := by unfold pc; simp only [Nat.reducePow]; omega
theorem pc_jump (s : Nat) : pc s 20 12 = pc s 20 1 + 2 * pc s 21 10 + 2048 * pc s 31 1 := by unfold pc; simp only [Nat.reducePow]; omega
theorem pc_7_5 (s : Nat) : pc s 7 5 = pc s 7 1 + 2 * pc s 8 4 := by unfold pc; simp only [Nat.reducePow]; omega
theorem pc_25_7 (s : Nat) : pc s 25 7 = pc s 25 6 + 64 * pc s 31 1 := by unfold pc; simp only [Nat.reducePow]; omega
theorem pc_25_7' (s : Nat) : pc s 25 7 = pc s 25 2 + 4 * pc s 27 5 := by unfold pc; simp only [Nat.reducePow]; omega
theorem pc_20_12' (s : Nat) : pc s 20 12 = pc s 20 6 + 64 * pc s 26 6 := by unfold pc; simp only [Nat.reducePow]; omega
end Go.Proofs.YtionnhjldcpmjaaGreatDoor
