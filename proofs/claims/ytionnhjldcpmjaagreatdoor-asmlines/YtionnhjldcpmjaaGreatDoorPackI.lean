/-
  Plain facts: pieces laid into a word are a sum; the pieces of a word, laid back, are the word.
  Each word that is an instruction's, but of fences: its pieces laid back are the word.
  The reference's Decode, for every word: it answers what Decode answers.
  Each word that is an instruction's, but of fences: the instruction's word is the same one.
-/
import Derived.Test.YtionnhjldcpmjaaGreatDoorFacts
import Derived.Test.YtionnhjldcpmjaaGreatDoorPackS
import Derived.Test.YtionnhjldcpmjaaGreatDoorPackT
import Derived.Test.YtionnhjldcpmjaaGreatDoorInstM
set_option linter.unusedVariables false
set_option linter.unusedSimpArgs false
namespace Go.Proofs.YtionnhjldcpmjaaGreatDoor
open Go.RowKit
deriving instance DecidableEq for Fm

theorem ly_add {s : Nat} (n : Int) {a m : Nat} (k : Nat) (h : s / 2 ^ a % 2 ^ m = 0) : ly s n a m k = s + gv n m k * 2 ^ a := by
  unfold ly
  have hx := gv_lt n m k
  generalize gv n m k = x at *
  have h1 := Nat.div_add_mod s (2 ^ a)
  have h2 := Nat.div_add_mod (s / 2 ^ a) (2 ^ m)
  have hL : s % 2 ^ a < 2 ^ a := Nat.mod_lt _ (Nat.two_pow_pos a)
  have hp : (2 : Nat) ^ (a + m) = 2 ^ a * 2 ^ m := Nat.pow_add 2 a m
  have e1 : s = s / 2 ^ a / 2 ^ m * 2 ^ (a + m) + s % 2 ^ a := by
    rw [h] at h2
    rw [hp]
    have e2 : s / 2 ^ a / 2 ^ m * (2 ^ a * 2 ^ m) = 2 ^ a * (2 ^ m * (s / 2 ^ a / 2 ^ m)) := by
      rw [Nat.mul_comm, Nat.mul_assoc]
    rw [e2]
    have e3 : 2 ^ m * (s / 2 ^ a / 2 ^ m) = s / 2 ^ a := by omega
    rw [e3]; omega
  generalize s / 2 ^ a / 2 ^ m = H at *
  generalize s % 2 ^ a = L at *
  have hb : x * 2 ^ a + L < 2 ^ (a + m) := by
    rw [hp]
    have : (x + 1) * 2 ^ a ≤ 2 ^ m * 2 ^ a := Nat.mul_le_mul_right _ hx
    rw [Nat.mul_comm (2 ^ a)]
    rw [Nat.add_mul] at this
    omega
  have hLb : L < 2 ^ (a + m) := by
    have := Nat.zero_le (x * 2 ^ a); omega
  rw [e1, ← nat_join (a + m) (H * 2 ^ (a + m)) L (Nat.mul_mod_left _ _) hLb, Nat.or_assoc, Nat.or_comm L, nat_join a (x * 2 ^ a) L (Nat.mul_mod_left _ _) hL,
    nat_join (a + m) (H * 2 ^ (a + m)) (x * 2 ^ a + L) (Nat.mul_mod_left _ _) hb, nat_join (a + m) (H * 2 ^ (a + m)) L (Nat.mul_mod_left _ _) hLb]
  omega
theorem gv_nat {p m : Nat} (h : p < 2 ^ m) : gv (p : Int) m 0 = p := by
  unfold gv
  have e : ((p : Int) / 2 ^ 0 % 2 ^ m) = (p : Int) := by
    rw [Int.pow_zero, Int.ediv_one]
    exact Int.emod_eq_of_lt (by omega) (by exact_mod_cast h)
  rw [e]; simp

/-! ### The pieces of a word -/
theorem word_parts (s : Nat) (hs : s < 4294967296) : s = pc s 0 7 + 128 * pc s 7 5 + 4096 * pc s 12 3 + 32768 * pc s 15 5 + 1048576 * pc s 20 5 + 33554432 * pc s 25 7 := by
  unfold pc; simp only [Nat.reducePow]; omega
theorem pc_20_12 (s : Nat) : pc s 20 12 = pc s 20 5 + 32 * pc s 25 7 := by unfold pc; simp only [Nat.reducePow]; omega
theorem pc_12_20 (s : Nat) : pc s 12 20 = pc s 12 3 + 8 * pc s 15 5 + 256 * pc s 20 5 + 8192 * pc s 25 7 := by unfold pc; simp only [Nat.reducePow]; omega
theorem pc_12_8 (s : Nat) : pc s 12 8 = pc s 12 3 + 8 * pc s 15 5 := by unfold pc; simp only [Nat.reducePow]; omega
theorem pc_jump (s : Nat) : pc s 20 12 = pc s 20 1 + 2 * pc s 21 10 + 2048 * pc s 31 1 := by unfold pc; simp only [Nat.reducePow]; omega
theorem pc_7_5 (s : Nat) : pc s 7 5 = pc s 7 1 + 2 * pc s 8 4 := by unfold pc; simp only [Nat.reducePow]; omega
theorem pc_25_7 (s : Nat) : pc s 25 7 = pc s 25 6 + 64 * pc s 31 1 := by unfold pc; simp only [Nat.reducePow]; omega
theorem pc_25_7' (s : Nat) : pc s 25 7 = pc s 25 2 + 4 * pc s 27 5 := by unfold pc; simp only [Nat.reducePow]; omega
theorem pc_20_12' (s : Nat) : pc s 20 12 = pc s 20 6 + 64 * pc s 26 6 := by unfold pc; simp only [Nat.reducePow]; omega
end Go.Proofs.YtionnhjldcpmjaaGreatDoor

set_option linter.unusedVariables false
set_option linter.unusedSimpArgs false
namespace Go.Proofs.YtionnhjldcpmjaaGreatDoor
open Go.RowKit
theorem lay_up (i : Ins) (c : Nat) (hc : c < 128) : layF i (c) .up = c + gv i.rd 5 0 * 128 + gv i.im 20 12 * 4096 := by
  show (ly (ly (c) i.rd 7 5 0) i.im 12 20 12) = _
  have g0 : gv i.rd 5 0 < 32 := gv_lt i.rd 5 0
  have g1 : gv i.im 20 12 < 1048576 := gv_lt i.im 20 12
  rw [ly_add (s := (c)) i.rd 0 (by simp only [Nat.reducePow]; omega)]
  simp only [Nat.reducePow]
  rw [ly_add (s := ((c) + gv i.rd 5 0 * 128)) i.im 12 (by simp only [Nat.reducePow]; omega)]

theorem lay_jp (i : Ins) (c : Nat) (hc : c < 128) : layF i (c) .jp = c + gv i.rd 5 0 * 128 + gv i.im 1 20 * 2147483648 + gv i.im 8 12 * 4096 + gv i.im 1 11 * 1048576 + gv i.im 10 1 * 2097152 := by
  show (ly (ly (ly (ly (ly (c) i.rd 7 5 0) i.im 31 1 20) i.im 12 8 12) i.im 20 1 11) i.im 21 10 1) = _
  have g0 : gv i.rd 5 0 < 32 := gv_lt i.rd 5 0
  have g1 : gv i.im 1 20 < 2 := gv_lt i.im 1 20
  have g2 : gv i.im 8 12 < 256 := gv_lt i.im 8 12
  have g3 : gv i.im 1 11 < 2 := gv_lt i.im 1 11
  have g4 : gv i.im 10 1 < 1024 := gv_lt i.im 10 1
  rw [ly_add (s := (c)) i.rd 0 (by simp only [Nat.reducePow]; omega)]
  simp only [Nat.reducePow]
  rw [ly_add (s := ((c) + gv i.rd 5 0 * 128)) i.im 20 (by simp only [Nat.reducePow]; omega)]
  simp only [Nat.reducePow]
  rw [ly_add (s := (((c) + gv i.rd 5 0 * 128) + gv i.im 1 20 * 2147483648)) i.im 12 (by simp only [Nat.reducePow]; omega)]
  simp only [Nat.reducePow]
  rw [ly_add (s := ((((c) + gv i.rd 5 0 * 128) + gv i.im 1 20 * 2147483648) + gv i.im 8 12 * 4096)) i.im 11 (by simp only [Nat.reducePow]; omega)]
  simp only [Nat.reducePow]
  rw [ly_add (s := (((((c) + gv i.rd 5 0 * 128) + gv i.im 1 20 * 2147483648) + gv i.im 8 12 * 4096) + gv i.im 1 11 * 1048576)) i.im 1 (by simp only [Nat.reducePow]; omega)]

theorem lay_im (i : Ins) (c f : Nat) (hc : c < 128) (hf : f < 8) : layF i (c + f * 4096) .im = c + f * 4096 + gv i.rd 5 0 * 128 + gv i.r1 5 0 * 32768 + gv i.im 12 0 * 1048576 := by
  show (ly (ly (ly (c + f * 4096) i.rd 7 5 0) i.r1 15 5 0) i.im 20 12 0) = _
  have g0 : gv i.rd 5 0 < 32 := gv_lt i.rd 5 0
  have g1 : gv i.r1 5 0 < 32 := gv_lt i.r1 5 0
  have g2 : gv i.im 12 0 < 4096 := gv_lt i.im 12 0
  rw [ly_add (s := (c + f * 4096)) i.rd 0 (by simp only [Nat.reducePow]; omega)]
  simp only [Nat.reducePow]
  rw [ly_add (s := ((c + f * 4096) + gv i.rd 5 0 * 128)) i.r1 0 (by simp only [Nat.reducePow]; omega)]
  simp only [Nat.reducePow]
  rw [ly_add (s := (((c + f * 4096) + gv i.rd 5 0 * 128) + gv i.r1 5 0 * 32768)) i.im 0 (by simp only [Nat.reducePow]; omega)]

theorem lay_br (i : Ins) (c f : Nat) (hc : c < 128) (hf : f < 8) : layF i (c + f * 4096) .br = c + f * 4096 + gv i.r1 5 0 * 32768 + gv i.r2 5 0 * 1048576 + gv i.im 1 12 * 2147483648 + gv i.im 1 11 * 128 + gv i.im 6 5 * 33554432 + gv i.im 4 1 * 256 := by
  show (ly (ly (ly (ly (ly (ly (c + f * 4096) i.r1 15 5 0) i.r2 20 5 0) i.im 31 1 12) i.im 7 1 11) i.im 25 6 5) i.im 8 4 1) = _
  have g0 : gv i.r1 5 0 < 32 := gv_lt i.r1 5 0
  have g1 : gv i.r2 5 0 < 32 := gv_lt i.r2 5 0
  have g2 : gv i.im 1 12 < 2 := gv_lt i.im 1 12
  have g3 : gv i.im 1 11 < 2 := gv_lt i.im 1 11
  have g4 : gv i.im 6 5 < 64 := gv_lt i.im 6 5
  have g5 : gv i.im 4 1 < 16 := gv_lt i.im 4 1
  rw [ly_add (s := (c + f * 4096)) i.r1 0 (by simp only [Nat.reducePow]; omega)]
  simp only [Nat.reducePow]
  rw [ly_add (s := ((c + f * 4096) + gv i.r1 5 0 * 32768)) i.r2 0 (by simp only [Nat.reducePow]; omega)]
  simp only [Nat.reducePow]
  rw [ly_add (s := (((c + f * 4096) + gv i.r1 5 0 * 32768) + gv i.r2 5 0 * 1048576)) i.im 12 (by simp only [Nat.reducePow]; omega)]
  simp only [Nat.reducePow]
  rw [ly_add (s := ((((c + f * 4096) + gv i.r1 5 0 * 32768) + gv i.r2 5 0 * 1048576) + gv i.im 1 12 * 2147483648)) i.im 11 (by simp only [Nat.reducePow]; omega)]
  simp only [Nat.reducePow]
  rw [ly_add (s := (((((c + f * 4096) + gv i.r1 5 0 * 32768) + gv i.r2 5 0 * 1048576) + gv i.im 1 12 * 2147483648) + gv i.im 1 11 * 128)) i.im 5 (by simp only [Nat.reducePow]; omega)]
  simp only [Nat.reducePow]
  rw [ly_add (s := ((((((c + f * 4096) + gv i.r1 5 0 * 32768) + gv i.r2 5 0 * 1048576) + gv i.im 1 12 * 2147483648) + gv i.im 1 11 * 128) + gv i.im 6 5 * 33554432)) i.im 1 (by simp only [Nat.reducePow]; omega)]

theorem lay_st (i : Ins) (c f : Nat) (hc : c < 128) (hf : f < 8) : layF i (c + f * 4096) .st = c + f * 4096 + gv i.r1 5 0 * 32768 + gv i.r2 5 0 * 1048576 + gv i.im 7 5 * 33554432 + gv i.im 5 0 * 128 := by
  show (ly (ly (ly (ly (c + f * 4096) i.r1 15 5 0) i.r2 20 5 0) i.im 25 7 5) i.im 7 5 0) = _
  have g0 : gv i.r1 5 0 < 32 := gv_lt i.r1 5 0
  have g1 : gv i.r2 5 0 < 32 := gv_lt i.r2 5 0
  have g2 : gv i.im 7 5 < 128 := gv_lt i.im 7 5
  have g3 : gv i.im 5 0 < 32 := gv_lt i.im 5 0
  rw [ly_add (s := (c + f * 4096)) i.r1 0 (by simp only [Nat.reducePow]; omega)]
  simp only [Nat.reducePow]
  rw [ly_add (s := ((c + f * 4096) + gv i.r1 5 0 * 32768)) i.r2 0 (by simp only [Nat.reducePow]; omega)]
  simp only [Nat.reducePow]
  rw [ly_add (s := (((c + f * 4096) + gv i.r1 5 0 * 32768) + gv i.r2 5 0 * 1048576)) i.im 5 (by simp only [Nat.reducePow]; omega)]
  simp only [Nat.reducePow]
  rw [ly_add (s := ((((c + f * 4096) + gv i.r1 5 0 * 32768) + gv i.r2 5 0 * 1048576) + gv i.im 7 5 * 33554432)) i.im 0 (by simp only [Nat.reducePow]; omega)]

theorem lay_rg (i : Ins) (c f g : Nat) (hc : c < 128) (hf : f < 8) (hg : g < 128) : layF i (c + f * 4096 + g * 33554432) .rg = c + f * 4096 + g * 33554432 + gv i.rd 5 0 * 128 + gv i.r1 5 0 * 32768 + gv i.r2 5 0 * 1048576 := by
  show (ly (ly (ly (c + f * 4096 + g * 33554432) i.rd 7 5 0) i.r1 15 5 0) i.r2 20 5 0) = _
  have g0 : gv i.rd 5 0 < 32 := gv_lt i.rd 5 0
  have g1 : gv i.r1 5 0 < 32 := gv_lt i.r1 5 0
  have g2 : gv i.r2 5 0 < 32 := gv_lt i.r2 5 0
  rw [ly_add (s := (c + f * 4096 + g * 33554432)) i.rd 0 (by simp only [Nat.reducePow]; omega)]
  simp only [Nat.reducePow]
  rw [ly_add (s := ((c + f * 4096 + g * 33554432) + gv i.rd 5 0 * 128)) i.r1 0 (by simp only [Nat.reducePow]; omega)]
  simp only [Nat.reducePow]
  rw [ly_add (s := (((c + f * 4096 + g * 33554432) + gv i.rd 5 0 * 128) + gv i.r1 5 0 * 32768)) i.r2 0 (by simp only [Nat.reducePow]; omega)]

theorem lay_am (i : Ins) (c f q : Nat) (hc : c < 128) (hf : f < 8) (hq : q < 32) : layF i (c + f * 4096 + q * 134217728) .am = c + f * 4096 + q * 134217728 + gv i.rd 5 0 * 128 + gv i.r1 5 0 * 32768 + gv i.r2 5 0 * 1048576 + gv i.od 2 0 * 33554432 := by
  show (ly (ly (ly (ly (c + f * 4096 + q * 134217728) i.rd 7 5 0) i.r1 15 5 0) i.r2 20 5 0) i.od 25 2 0) = _
  have g0 : gv i.rd 5 0 < 32 := gv_lt i.rd 5 0
  have g1 : gv i.r1 5 0 < 32 := gv_lt i.r1 5 0
  have g2 : gv i.r2 5 0 < 32 := gv_lt i.r2 5 0
  have g3 : gv i.od 2 0 < 4 := gv_lt i.od 2 0
  rw [ly_add (s := (c + f * 4096 + q * 134217728)) i.rd 0 (by simp only [Nat.reducePow]; omega)]
  simp only [Nat.reducePow]
  rw [ly_add (s := ((c + f * 4096 + q * 134217728) + gv i.rd 5 0 * 128)) i.r1 0 (by simp only [Nat.reducePow]; omega)]
  simp only [Nat.reducePow]
  rw [ly_add (s := (((c + f * 4096 + q * 134217728) + gv i.rd 5 0 * 128) + gv i.r1 5 0 * 32768)) i.r2 0 (by simp only [Nat.reducePow]; omega)]
  simp only [Nat.reducePow]
  rw [ly_add (s := ((((c + f * 4096 + q * 134217728) + gv i.rd 5 0 * 128) + gv i.r1 5 0 * 32768) + gv i.r2 5 0 * 1048576)) i.od 0 (by simp only [Nat.reducePow]; omega)]

theorem lay_sh6 (i : Ins) (c f g : Nat) (hc : c < 128) (hf : f < 8) (hg : g < 64) : layF i (c + f * 4096 + g * 67108864) (.sh 6) = c + f * 4096 + g * 67108864 + gv i.rd 5 0 * 128 + gv i.r1 5 0 * 32768 + gv i.im 6 0 * 1048576 := by
  show (ly (ly (ly (c + f * 4096 + g * 67108864) i.rd 7 5 0) i.r1 15 5 0) i.im 20 6 0) = _
  have g0 : gv i.rd 5 0 < 32 := gv_lt i.rd 5 0
  have g1 : gv i.r1 5 0 < 32 := gv_lt i.r1 5 0
  have g2 : gv i.im 6 0 < 64 := gv_lt i.im 6 0
  rw [ly_add (s := (c + f * 4096 + g * 67108864)) i.rd 0 (by simp only [Nat.reducePow]; omega)]
  simp only [Nat.reducePow]
  rw [ly_add (s := ((c + f * 4096 + g * 67108864) + gv i.rd 5 0 * 128)) i.r1 0 (by simp only [Nat.reducePow]; omega)]
  simp only [Nat.reducePow]
  rw [ly_add (s := (((c + f * 4096 + g * 67108864) + gv i.rd 5 0 * 128) + gv i.r1 5 0 * 32768)) i.im 0 (by simp only [Nat.reducePow]; omega)]

theorem lay_sh5 (i : Ins) (c f g : Nat) (hc : c < 128) (hf : f < 8) (hg : g < 128) : layF i (c + f * 4096 + g * 33554432) (.sh 5) = c + f * 4096 + g * 33554432 + gv i.rd 5 0 * 128 + gv i.r1 5 0 * 32768 + gv i.im 5 0 * 1048576 := by
  show (ly (ly (ly (c + f * 4096 + g * 33554432) i.rd 7 5 0) i.r1 15 5 0) i.im 20 5 0) = _
  have g0 : gv i.rd 5 0 < 32 := gv_lt i.rd 5 0
  have g1 : gv i.r1 5 0 < 32 := gv_lt i.r1 5 0
  have g2 : gv i.im 5 0 < 32 := gv_lt i.im 5 0
  rw [ly_add (s := (c + f * 4096 + g * 33554432)) i.rd 0 (by simp only [Nat.reducePow]; omega)]
  simp only [Nat.reducePow]
  rw [ly_add (s := ((c + f * 4096 + g * 33554432) + gv i.rd 5 0 * 128)) i.r1 0 (by simp only [Nat.reducePow]; omega)]
  simp only [Nat.reducePow]
  rw [ly_add (s := (((c + f * 4096 + g * 33554432) + gv i.rd 5 0 * 128) + gv i.r1 5 0 * 32768)) i.im 0 (by simp only [Nat.reducePow]; omega)]

/-! ### What is laid of a decoded immediate -/
theorem gvI (p : Nat) (h : p < 4096) : gv (low (p : Int) 12) 12 0 = p := by
  unfold gv; rw [low12']; simp only [Int.reducePow]; omega
theorem gvU (p : Nat) (h : p < 1048576) : gv (low (p : Int) 20 * 4096) 20 12 = p := by
  unfold gv; rw [low20']; simp only [Int.reducePow]; omega
theorem gvJ (a b c d : Nat) (ha : a < 2) (hb : b < 256) (hc : c < 2) (hd : d < 1024) :
    gv (low (((a * 256 + b) * 2 + c) * 1024 + d : Int) 20 * 2) 1 20 = a ∧ gv (low (((a * 256 + b) * 2 + c) * 1024 + d : Int) 20 * 2) 8 12 = b ∧
    gv (low (((a * 256 + b) * 2 + c) * 1024 + d : Int) 20 * 2) 1 11 = c ∧ gv (low (((a * 256 + b) * 2 + c) * 1024 + d : Int) 20 * 2) 10 1 = d := by
  unfold gv; rw [low20']; simp only [Int.reducePow]; refine ⟨?_, ?_, ?_, ?_⟩ <;> omega
theorem gvB (a b c d : Nat) (ha : a < 2) (hb : b < 2) (hc : c < 64) (hd : d < 16) :
    gv (low (((a * 2 + b) * 64 + c) * 16 + d : Int) 12 * 2) 1 12 = a ∧ gv (low (((a * 2 + b) * 64 + c) * 16 + d : Int) 12 * 2) 1 11 = b ∧
    gv (low (((a * 2 + b) * 64 + c) * 16 + d : Int) 12 * 2) 6 5 = c ∧ gv (low (((a * 2 + b) * 64 + c) * 16 + d : Int) 12 * 2) 4 1 = d := by
  unfold gv; rw [low12']; simp only [Int.reducePow]; refine ⟨?_, ?_, ?_, ?_⟩ <;> omega
theorem gvS (a b : Nat) (ha : a < 128) (hb : b < 32) : gv (low ((a * 32 + b : Int)) 12) 7 5 = a ∧ gv (low ((a * 32 + b : Int)) 12) 5 0 = b := by
  unfold gv; rw [low12']; simp only [Int.reducePow]; refine ⟨?_, ?_⟩ <;> omega
theorem gv5 (s a : Nat) : gv (tk s a 5 0) 5 0 = pc s a 5 := by rw [tk_zero]; exact gv_nat (pc_lt s a 5)
theorem gv2 (s a : Nat) : gv (tk s a 2 0) 2 0 = pc s a 2 := by rw [tk_zero]; exact gv_nat (pc_lt s a 2)
theorem back_up (o : Int) (s : Nat) (hs : s < 4294967296) : layF (parts o s .up) (pc s 0 7) .up = s := by
  have hw := word_parts s hs
  rw [lay_up _ _ (pc_lt s 0 7)]
  show pc s 0 7 + gv (tk s 7 5 0) 5 0 * 128 + gv (low (tk s 12 20 12) 32) 20 12 * 4096 = s
  rw [gv5, imU, gvU _ (pc_lt s 12 20), pc_12_20]
  omega
theorem back_jp (o : Int) (s : Nat) (hs : s < 4294967296) : layF (parts o s .jp) (pc s 0 7) .jp = s := by
  have hw := word_parts s hs
  obtain ⟨j1, j2, j3, j4⟩ := gvJ (pc s 31 1) (pc s 12 8) (pc s 20 1) (pc s 21 10) (pc_lt s 31 1) (pc_lt s 12 8) (pc_lt s 20 1) (pc_lt s 21 10)
  have r1 := pc_20_12 s
  have r2 := pc_jump s
  rw [lay_jp _ _ (pc_lt s 0 7)]
  show pc s 0 7 + gv (tk s 7 5 0) 5 0 * 128 + gv (low _ 21) 1 20 * 2147483648 + gv (low _ 21) 8 12 * 4096 + gv (low _ 21) 1 11 * 1048576 + gv (low _ 21) 10 1 * 2097152 = s
  rw [gv5, imJ, j1, j2, j3, j4, pc_12_8]
  omega
theorem back_im (o : Int) (s : Nat) (hs : s < 4294967296) : layF (parts o s .im) (pc s 0 7 + pc s 12 3 * 4096) .im = s := by
  have hw := word_parts s hs
  rw [lay_im _ _ _ (pc_lt s 0 7) (pc_lt s 12 3)]
  show pc s 0 7 + pc s 12 3 * 4096 + gv (tk s 7 5 0) 5 0 * 128 + gv (tk s 15 5 0) 5 0 * 32768 + gv (low (tk s 20 12 0) 12) 12 0 * 1048576 = s
  rw [gv5, gv5, tk_zero, gvI _ (pc_lt s 20 12), pc_20_12]
  omega
theorem back_br (o : Int) (s : Nat) (hs : s < 4294967296) : layF (parts o s .br) (pc s 0 7 + pc s 12 3 * 4096) .br = s := by
  have hw := word_parts s hs
  obtain ⟨j1, j2, j3, j4⟩ := gvB (pc s 31 1) (pc s 7 1) (pc s 25 6) (pc s 8 4) (pc_lt s 31 1) (pc_lt s 7 1) (pc_lt s 25 6) (pc_lt s 8 4)
  have r1 := pc_7_5 s
  have r2 := pc_25_7 s
  rw [lay_br _ _ _ (pc_lt s 0 7) (pc_lt s 12 3)]
  show pc s 0 7 + pc s 12 3 * 4096 + gv (tk s 15 5 0) 5 0 * 32768 + gv (tk s 20 5 0) 5 0 * 1048576 + gv (low _ 13) 1 12 * 2147483648 + gv (low _ 13) 1 11 * 128 + gv (low _ 13) 6 5 * 33554432 + gv (low _ 13) 4 1 * 256 = s
  rw [gv5, gv5, imB, j1, j2, j3, j4]
  omega
theorem back_st (o : Int) (s : Nat) (hs : s < 4294967296) : layF (parts o s .st) (pc s 0 7 + pc s 12 3 * 4096) .st = s := by
  have hw := word_parts s hs
  obtain ⟨j1, j2⟩ := gvS (pc s 25 7) (pc s 7 5) (pc_lt s 25 7) (pc_lt s 7 5)
  rw [lay_st _ _ _ (pc_lt s 0 7) (pc_lt s 12 3)]
  show pc s 0 7 + pc s 12 3 * 4096 + gv (tk s 15 5 0) 5 0 * 32768 + gv (tk s 20 5 0) 5 0 * 1048576 + gv (low _ 12) 7 5 * 33554432 + gv (low _ 12) 5 0 * 128 = s
  rw [gv5, gv5, imS, j1, j2]
  omega
theorem back_rg (o : Int) (s : Nat) (hs : s < 4294967296) : layF (parts o s .rg) (pc s 0 7 + pc s 12 3 * 4096 + pc s 25 7 * 33554432) .rg = s := by
  have hw := word_parts s hs
  rw [lay_rg _ _ _ _ (pc_lt s 0 7) (pc_lt s 12 3) (pc_lt s 25 7)]
  show pc s 0 7 + pc s 12 3 * 4096 + pc s 25 7 * 33554432 + gv (tk s 7 5 0) 5 0 * 128 + gv (tk s 15 5 0) 5 0 * 32768 + gv (tk s 20 5 0) 5 0 * 1048576 = s
  rw [gv5, gv5, gv5]
  omega
theorem back_am (o : Int) (s : Nat) (hs : s < 4294967296) : layF (parts o s .am) (pc s 0 7 + pc s 12 3 * 4096 + pc s 27 5 * 134217728) .am = s := by
  have hw := word_parts s hs
  have r2 := pc_25_7' s
  rw [lay_am _ _ _ _ (pc_lt s 0 7) (pc_lt s 12 3) (pc_lt s 27 5)]
  show pc s 0 7 + pc s 12 3 * 4096 + pc s 27 5 * 134217728 + gv (tk s 7 5 0) 5 0 * 128 + gv (tk s 15 5 0) 5 0 * 32768 + gv (tk s 20 5 0) 5 0 * 1048576 + gv (tk s 25 2 0) 2 0 * 33554432 = s
  rw [gv5, gv5, gv5, gv2]
  omega
theorem back_sh6 (o : Int) (s : Nat) (hs : s < 4294967296) : layF (parts o s (.sh 6)) (pc s 0 7 + pc s 12 3 * 4096 + pc s 26 6 * 67108864) (.sh 6) = s := by
  have hw := word_parts s hs
  have r1 := pc_20_12 s
  have r2 := pc_20_12' s
  rw [lay_sh6 _ _ _ _ (pc_lt s 0 7) (pc_lt s 12 3) (pc_lt s 26 6)]
  show pc s 0 7 + pc s 12 3 * 4096 + pc s 26 6 * 67108864 + gv (tk s 7 5 0) 5 0 * 128 + gv (tk s 15 5 0) 5 0 * 32768 + gv (tk s 20 6 0) 6 0 * 1048576 = s
  rw [gv5, gv5, tk_zero, gv_nat (pc_lt s 20 6)]
  omega
theorem back_sh5 (o : Int) (s : Nat) (hs : s < 4294967296) : layF (parts o s (.sh 5)) (pc s 0 7 + pc s 12 3 * 4096 + pc s 25 7 * 33554432) (.sh 5) = s := by
  have hw := word_parts s hs
  rw [lay_sh5 _ _ _ _ (pc_lt s 0 7) (pc_lt s 12 3) (pc_lt s 25 7)]
  show pc s 0 7 + pc s 12 3 * 4096 + pc s 25 7 * 33554432 + gv (tk s 7 5 0) 5 0 * 128 + gv (tk s 15 5 0) 5 0 * 32768 + gv (tk s 20 5 0) 5 0 * 1048576 = s
  rw [gv5, gv5, gv5]
  omega
end Go.Proofs.YtionnhjldcpmjaaGreatDoor

set_option linter.unusedVariables false
set_option linter.unusedSimpArgs false
namespace Go.Proofs.YtionnhjldcpmjaaGreatDoor
set_option maxRecDepth 100000
open Go.RowKit
abbrev DecPost (s : Nat) (w : World) : Ending → World → Prop := fun e w' => e = .returned (.tuple #[.agg (dec s).cells, .bool (decide (opW s ≠ 0))]) ∧ Kp none w w'
theorem ref_yes {s : Nat} {w : World} {o : Int} {fm : Fm} {A : Array Value} (hop : opW s = o) (hfm : fmW s = fm) (ho : (o == 0) = false) (hA : (parts o s fm).cells = A)
    (h : Calls Tryz.prog 16 #[.int .u32 s] w fun e w' => e = .returned (.tuple #[.agg A, .bool true]) ∧ Kp none w w') : Calls Tryz.prog 16 #[.int .u32 s] w (DecPost s w) := by
  have ho' : o ≠ 0 := by simpa using ho
  have e1 : dec s = parts o s fm := by unfold dec; rw [hop, hfm, if_neg ho']
  have e2 : decide (opW s ≠ 0) = true := by rw [hop]; simp [ho']
  unfold DecPost
  rw [e1, e2, hA]; exact h
theorem ref_no {s : Nat} {w : World} (hop : opW s = 0)
    (h : Calls Tryz.prog 16 #[.int .u32 s] w fun e w' => e = .returned (.tuple #[.agg (I7 0 0 0 0 0 0 0), .bool false]) ∧ Kp none w w') : Calls Tryz.prog 16 #[.int .u32 s] w (DecPost s w) := by
  have e1 : dec s = zeroI := if_pos hop
  have e2 : decide (opW s ≠ 0) = false := by simp [hop]
  unfold DecPost
  rw [e1, e2]; exact h
theorem nb' {a b : Int} (h : a ≠ b) : (a == b) = false := by simpa using h
theorem up_half (s : Nat) : pc s 26 6 = pc s 25 7 / 2 := by unfold pc; simp only [Nat.reducePow]; omega
def lrB (o : Int) (z : Bool) : Int := if (o = 63 ∨ o = 74) ∧ z = true then 0 else o
theorem lrOf_lrB (o : Int) (p : Nat) : lrOf o p = lrB o (decide ((p : Int) ≠ 0)) := by
  unfold lrOf lrB
  by_cases h : p = 0
  · simp [h]
  · have : ((p : Int) ≠ 0) := by omega
    simp [h, this]
theorem opU_eq : ∀ f5 : Nat, f5 < 32 → ∀ f3 : Nat, f3 < 8 → ∀ z : Bool, opU f5 f3 z 11 = lrB (if f3 = 2 then T17.getD f5 0 else if f3 = 3 then T18.getD f5 0 else 0) z := by decide
theorem opA_opU (s : Nat) : opA s (pc s 12 3) = opU (pc s 27 5) (pc s 12 3) (decide (((pc s 20 5 : Nat) : Int) ≠ 0)) 11 := by
  rw [opU_eq _ (pc_lt s 27 5) _ (pc_lt s 12 3)]
  unfold opA
  rw [lrOf_lrB]
theorem eq_T0 : ∀ f : Nat, f < 8 → T0.getD f 0 = ([4] : List Int).getD f 0 := by decide
theorem eq_T2 : ∀ f : Nat, f < 8 → T2.getD f 0 = ([11, 12, 13, 14, 15, 16, 17] : List Int).getD f 0 := by decide
theorem eq_T1 : ∀ f : Nat, f < 8 → T1.getD f 0 = ([5, 6, 0, 0, 7, 8, 9, 10] : List Int).getD f 0 := by decide
theorem eq_T3 : ∀ f : Nat, f < 8 → T3.getD f 0 = ([18, 19, 20, 21] : List Int).getD f 0 := by decide
theorem eq_T10 : ∀ f : Nat, f < 8 → T10.getD f 0 = ([85, 86] : List Int).getD f 0 := by decide
theorem eq_T5 : ∀ f : Nat, f < 8 → T5.getD f 0 = ([32, 0, 0, 0, 0, 38] : List Int).getD f 0 := by decide
theorem eq_T7 : ∀ f : Nat, f < 8 → T7.getD f 0 = ([45, 47, 0, 0, 0, 48] : List Int).getD f 0 := by decide
theorem eq_T8 : ∀ f : Nat, f < 8 → T8.getD f 0 = ([46, 0, 0, 0, 0, 49] : List Int).getD f 0 := by decide
theorem eq_T9 : ∀ f : Nat, f < 8 → T9.getD f 0 = ([58, 0, 0, 0, 59, 60, 61, 62] : List Int).getD f 0 := by decide
theorem nz_T4 : ∀ f : Nat, f < 8 → (([31, 33, 34, 35, 36, 37, 39, 40] : List Int).getD f 0 == 0) = false := by decide
theorem nz_T6 : ∀ f : Nat, f < 8 → (([50, 51, 52, 53, 54, 55, 56, 57] : List Int).getD f 0 == 0) = false := by decide
theorem nz_T11 : ∀ f : Nat, f < 8 → f ≠ 1 → f ≠ 5 → (([22, 0, 23, 24, 25, 0, 26, 27] : List Int).getD f 0 == 0) = false := by decide
theorem z_W : ∀ f : Nat, f < 8 → f ≠ 0 → f ≠ 1 → f ≠ 5 → ([41] : List Int).getD f 0 = 0 ∧ T15.getD f 0 = 0 ∧ T16.getD f 0 = 0 := by decide
theorem pick_z (g f : Nat) (a b c : List Int) (ha : a.getD f 0 = 0) (hb : b.getD f 0 = 0) (hc : c.getD f 0 = 0) : pick3 g a b c f = 0 := by
  unfold pick3; repeat' split
  all_goals first | assumption | rfl

set_option maxHeartbeats 1000000 in
theorem ref_any (s : Nat) (w : World) (hs : s < 4294967296) : Calls Tryz.prog 16 #[.int .u32 s] w (DecPost s w) := by
  have hf : pc s 12 3 < 8 := pc_lt s 12 3
  have hg : pc s 25 7 < 128 := pc_lt s 25 7
  by_cases h55 : pc s 0 7 = 55
  · have hop : opW s = opC 55 (pc s 12 3) (pc s 25 7) s := by unfold opW; rw [h55]
    have hfm : fmW s = fmC 55 (pc s 12 3) := by unfold fmW; rw [h55]
    exact ref_yes (o := 1) hop hfm (by decide) (parts_up _ s) (ref_lui s w hs h55)
  by_cases h23 : pc s 0 7 = 23
  · have hop : opW s = opC 23 (pc s 12 3) (pc s 25 7) s := by unfold opW; rw [h23]
    have hfm : fmW s = fmC 23 (pc s 12 3) := by unfold fmW; rw [h23]
    exact ref_yes (o := 2) hop hfm (by decide) (parts_up _ s) (ref_auipc s w hs h23)
  by_cases h111 : pc s 0 7 = 111
  · have hop : opW s = opC 111 (pc s 12 3) (pc s 25 7) s := by unfold opW; rw [h111]
    have hfm : fmW s = fmC 111 (pc s 12 3) := by unfold fmW; rw [h111]
    exact ref_yes (o := 3) hop hfm (by decide) (parts_jp _ s) (ref_jal s w hs h111)
  by_cases h103 : pc s 0 7 = 103
  · have hop : opW s = opC 103 (pc s 12 3) (pc s 25 7) s := by unfold opW; rw [h103]
    have hfm : fmW s = fmC 103 (pc s 12 3) := by unfold fmW; rw [h103]
    have hop2 : opW s = ([4] : List Int).getD (pc s 12 3) 0 := hop.trans (eq_T0 _ hf)
    by_cases hz : ([4] : List Int).getD (pc s 12 3) 0 = 0
    · exact ref_no (hop2.trans hz) (ref_jalr_z s w hs h103 hz)
    · exact ref_yes hop2 hfm (nb' hz) (parts_im _ s) (ref_jalr s w hs h103 (nb' hz))
  by_cases h99 : pc s 0 7 = 99
  · have hop : opW s = opC 99 (pc s 12 3) (pc s 25 7) s := by unfold opW; rw [h99]
    have hfm : fmW s = fmC 99 (pc s 12 3) := by unfold fmW; rw [h99]
    have hop2 : opW s = ([5, 6, 0, 0, 7, 8, 9, 10] : List Int).getD (pc s 12 3) 0 := hop.trans (eq_T1 _ hf)
    by_cases hz : ([5, 6, 0, 0, 7, 8, 9, 10] : List Int).getD (pc s 12 3) 0 = 0
    · exact ref_no (hop2.trans hz) (ref_branch_z s w hs h99 hz)
    · exact ref_yes hop2 hfm (nb' hz) (parts_br _ s) (ref_branch s w hs h99 (nb' hz))
  by_cases h3 : pc s 0 7 = 3
  · have hop : opW s = opC 3 (pc s 12 3) (pc s 25 7) s := by unfold opW; rw [h3]
    have hfm : fmW s = fmC 3 (pc s 12 3) := by unfold fmW; rw [h3]
    have hop2 : opW s = ([11, 12, 13, 14, 15, 16, 17] : List Int).getD (pc s 12 3) 0 := hop.trans (eq_T2 _ hf)
    by_cases hz : ([11, 12, 13, 14, 15, 16, 17] : List Int).getD (pc s 12 3) 0 = 0
    · exact ref_no (hop2.trans hz) (ref_load_z s w hs h3 hz)
    · exact ref_yes hop2 hfm (nb' hz) (parts_im _ s) (ref_load s w hs h3 (nb' hz))
  by_cases h35 : pc s 0 7 = 35
  · have hop : opW s = opC 35 (pc s 12 3) (pc s 25 7) s := by unfold opW; rw [h35]
    have hfm : fmW s = fmC 35 (pc s 12 3) := by unfold fmW; rw [h35]
    have hop2 : opW s = ([18, 19, 20, 21] : List Int).getD (pc s 12 3) 0 := hop.trans (eq_T3 _ hf)
    by_cases hz : ([18, 19, 20, 21] : List Int).getD (pc s 12 3) 0 = 0
    · exact ref_no (hop2.trans hz) (ref_store_z s w hs h35 hz)
    · exact ref_yes hop2 hfm (nb' hz) (parts_st _ s) (ref_store s w hs h35 (nb' hz))
  by_cases h15 : pc s 0 7 = 15
  · have hop : opW s = opC 15 (pc s 12 3) (pc s 25 7) s := by unfold opW; rw [h15]
    have hfm : fmW s = fmC 15 (pc s 12 3) := by unfold fmW; rw [h15]
    have hop2 : opW s = ([85, 86] : List Int).getD (pc s 12 3) 0 := hop.trans (eq_T10 _ hf)
    by_cases hz : ([85, 86] : List Int).getD (pc s 12 3) 0 = 0
    · exact ref_no (hop2.trans hz) (ref_fence_z s w hs h15 hz)
    · exact ref_yes hop2 hfm (nb' hz) (parts_ba _ s) (ref_fence s w hs h15 (nb' hz))
  by_cases h47 : pc s 0 7 = 47
  · have hop : opW s = opC 47 (pc s 12 3) (pc s 25 7) s := by unfold opW; rw [h47]
    have hfm : fmW s = fmC 47 (pc s 12 3) := by unfold fmW; rw [h47]
    have hop2 : opW s = (opU (pc s 27 5) (pc s 12 3) (decide (((pc s 20 5 : Nat) : Int) ≠ 0)) 11) := hop.trans (opA_opU s)
    by_cases hz : (opU (pc s 27 5) (pc s 12 3) (decide (((pc s 20 5 : Nat) : Int) ≠ 0)) 11) = 0
    · exact ref_no (hop2.trans hz) (ref_atomic_z s w hs h47 hz)
    · exact ref_yes hop2 hfm (nb' hz) (parts_am _ s) (ref_atomic s w hs h47 (nb' hz))
  by_cases h115 : pc s 0 7 = 115
  · have hop : opW s = opC 115 (pc s 12 3) (pc s 25 7) s := by unfold opW; rw [h115]
    have hfm : fmW s = fmC 115 (pc s 12 3) := by unfold fmW; rw [h115]
    by_cases h1 : s = 115
    · have hop2 : opW s = 87 := hop.trans (if_pos h1)
      exact ref_yes hop2 hfm (by decide) rfl (ref_ecall s w hs h115 (by simp [h1]) (by simp [h1]))
    · by_cases h2 : s = 1048691
      · have hop2 : opW s = 88 := hop.trans ((if_neg h1).trans (if_pos h2))
        exact ref_yes hop2 hfm (by decide) rfl (ref_ebreak s w hs h115 (by simp [h2]) (by simp [h2]))
      · have hop2 : opW s = 0 := hop.trans ((if_neg h1).trans (if_neg h2))
        exact ref_no hop2 (ref_system s w hs h115 (nb h1) (nb h2))
  by_cases h51 : pc s 0 7 = 51
  · have hop : opW s = opC 51 (pc s 12 3) (pc s 25 7) s := by unfold opW; rw [h51]
    have hfm : fmW s = fmC 51 (pc s 12 3) := by unfold fmW; rw [h51]
    by_cases h7_0 : pc s 25 7 = 0
    · have hop2 : opW s = ([31, 33, 34, 35, 36, 37, 39, 40] : List Int).getD (pc s 12 3) 0 := hop.trans ((pick_a h7_0).trans rfl)
      exact ref_yes hop2 hfm (nz_T4 _ hf) (parts_rg _ s) (ref_plain_a s w hs h51 h7_0 (nz_T4 _ hf))
    by_cases h7_32 : pc s 25 7 = 32
    · have hop2 : opW s = ([32, 0, 0, 0, 0, 38] : List Int).getD (pc s 12 3) 0 := hop.trans ((pick_b h7_32).trans (eq_T5 _ hf))
      by_cases hz : ([32, 0, 0, 0, 0, 38] : List Int).getD (pc s 12 3) 0 = 0
      · exact ref_no (hop2.trans hz) (ref_plain_b_z s w hs h51 h7_32 hz)
      · exact ref_yes hop2 hfm (nb' hz) (parts_rg _ s) (ref_plain_b s w hs h51 h7_32 (nb' hz))
    by_cases h7_1 : pc s 25 7 = 1
    · have hop2 : opW s = ([50, 51, 52, 53, 54, 55, 56, 57] : List Int).getD (pc s 12 3) 0 := hop.trans ((pick_p h7_1).trans rfl)
      exact ref_yes hop2 hfm (nz_T6 _ hf) (parts_rg _ s) (ref_plain_p s w hs h51 h7_1 (nz_T6 _ hf))
    have hop2 : opW s = 0 := hop.trans ((pick_c h7_0 h7_32 h7_1 hf).trans (z8 _ hf))
    exact ref_no hop2 (ref_plain_c s w hs h51 (nb h7_0) (nb h7_32) (nb h7_1))
  by_cases h59 : pc s 0 7 = 59
  · have hop : opW s = opC 59 (pc s 12 3) (pc s 25 7) s := by unfold opW; rw [h59]
    have hfm : fmW s = fmC 59 (pc s 12 3) := by unfold fmW; rw [h59]
    by_cases h7_0 : pc s 25 7 = 0
    · have hop2 : opW s = ([45, 47, 0, 0, 0, 48] : List Int).getD (pc s 12 3) 0 := hop.trans ((pick_a h7_0).trans (eq_T7 _ hf))
      by_cases hz : ([45, 47, 0, 0, 0, 48] : List Int).getD (pc s 12 3) 0 = 0
      · exact ref_no (hop2.trans hz) (ref_narrow_a_z s w hs h59 h7_0 hz)
      · exact ref_yes hop2 hfm (nb' hz) (parts_rg _ s) (ref_narrow_a s w hs h59 h7_0 (nb' hz))
    by_cases h7_32 : pc s 25 7 = 32
    · have hop2 : opW s = ([46, 0, 0, 0, 0, 49] : List Int).getD (pc s 12 3) 0 := hop.trans ((pick_b h7_32).trans (eq_T8 _ hf))
      by_cases hz : ([46, 0, 0, 0, 0, 49] : List Int).getD (pc s 12 3) 0 = 0
      · exact ref_no (hop2.trans hz) (ref_narrow_b_z s w hs h59 h7_32 hz)
      · exact ref_yes hop2 hfm (nb' hz) (parts_rg _ s) (ref_narrow_b s w hs h59 h7_32 (nb' hz))
    by_cases h7_1 : pc s 25 7 = 1
    · have hop2 : opW s = ([58, 0, 0, 0, 59, 60, 61, 62] : List Int).getD (pc s 12 3) 0 := hop.trans ((pick_p h7_1).trans (eq_T9 _ hf))
      by_cases hz : ([58, 0, 0, 0, 59, 60, 61, 62] : List Int).getD (pc s 12 3) 0 = 0
      · exact ref_no (hop2.trans hz) (ref_narrow_p_z s w hs h59 h7_1 hz)
      · exact ref_yes hop2 hfm (nb' hz) (parts_rg _ s) (ref_narrow_p s w hs h59 h7_1 (nb' hz))
    have hop2 : opW s = 0 := hop.trans ((pick_c h7_0 h7_32 h7_1 hf).trans (z8 _ hf))
    exact ref_no hop2 (ref_narrow_c s w hs h59 (nb h7_0) (nb h7_32) (nb h7_1))
  by_cases h19 : pc s 0 7 = 19
  · have hop : opW s = opC 19 (pc s 12 3) (pc s 25 7) s := by unfold opW; rw [h19]
    have hfm : fmW s = fmC 19 (pc s 12 3) := by unfold fmW; rw [h19]
    have hu := up_half s
    by_cases h5 : pc s 12 3 = 1 ∨ pc s 12 3 = 5
    · have hop1 : opW s = pick3 (pc s 25 7 / 2 * 2) T12 T13 Z8 (pc s 12 3) := hop.trans (if_pos h5)
      have hfm1 : fmW s = .sh 6 := hfm.trans (if_pos h5)
      by_cases ha : pc s 26 6 = 0
      · have e : opW s = T12.getD (pc s 12 3) 0 := hop1.trans (pick_a (by omega))
        rcases h5 with h | h
        · rw [h] at e
          exact ref_yes (o := 28) e hfm1 (by decide) (parts_sh _ s 6) (ref_imm19_0 s w hs h19 h ha)
        · rw [h] at e
          exact ref_yes (o := 29) e hfm1 (by decide) (parts_sh _ s 6) (ref_imm19_1 s w hs h19 h ha)
      · by_cases hb : pc s 26 6 = 16
        · have e : opW s = T13.getD (pc s 12 3) 0 := hop1.trans (pick_b (by omega))
          rcases h5 with h | h
          · rw [h] at e
            exact ref_no e (ref_imm19_3 s w hs h19 h (nb ha))
          · rw [h] at e
            exact ref_yes (o := 30) e hfm1 (by decide) (parts_sh _ s 6) (ref_imm19_2 s w hs h19 h hb)
        · have e : opW s = 0 := hop1.trans ((pick_c (by omega) (by omega) (by omega) hf).trans (z8 _ hf))
          rcases h5 with h | h
          · exact ref_no e (ref_imm19_3 s w hs h19 h (nb ha))
          · exact ref_no e (ref_imm19_4 s w hs h19 h (nb ha) (nb hb))
    · have hop1 : opW s = T11.getD (pc s 12 3) 0 := hop.trans (if_neg h5)
      have hfm1 : fmW s = .im := hfm.trans (if_neg h5)
      have n1 : pc s 12 3 ≠ 1 := fun h => h5 (.inl h)
      have n5 : pc s 12 3 ≠ 5 := fun h => h5 (.inr h)
      exact ref_yes hop1 hfm1 (nz_T11 _ hf n1 n5) (parts_im _ s) (ref_imm19 s w hs h19 (nb n1) (nb n5) (nz_T11 _ hf n1 n5))
  by_cases h27 : pc s 0 7 = 27
  · have hop : opW s = opC 27 (pc s 12 3) (pc s 25 7) s := by unfold opW; rw [h27]
    have hfm : fmW s = fmC 27 (pc s 12 3) := by unfold fmW; rw [h27]
    by_cases h0 : pc s 12 3 = 0
    · have hop1 : opW s = 41 := hop.trans (if_pos h0)
      have hfm1 : fmW s = .im := hfm.trans (if_pos h0)
      have e : ([41] : List Int).getD (pc s 12 3) 0 = 41 := by rw [h0]; rfl
      have r := ref_imm27 s w hs h27 (nb (a := pc s 12 3) (b := 1) (by omega)) (nb (a := pc s 12 3) (b := 5) (by omega)) (by rw [e]; rfl)
      rw [e] at r
      exact ref_yes hop1 hfm1 (by decide) (parts_im _ s) r
    · have hop1 : opW s = pick3 (pc s 25 7) T15 T16 Z8 (pc s 12 3) := hop.trans (if_neg h0)
      have hfm1 : fmW s = .sh 5 := hfm.trans (if_neg h0)
      by_cases h5 : pc s 12 3 = 1 ∨ pc s 12 3 = 5
      · by_cases ha : pc s 25 7 = 0
        · have e : opW s = T15.getD (pc s 12 3) 0 := hop1.trans (pick_a ha)
          rcases h5 with h | h
          · rw [h] at e
            exact ref_yes (o := 42) e hfm1 (by decide) (parts_sh _ s 5) (ref_imm27_0 s w hs h27 h ha)
          · rw [h] at e
            exact ref_yes (o := 43) e hfm1 (by decide) (parts_sh _ s 5) (ref_imm27_1 s w hs h27 h ha)
        · by_cases hb : pc s 25 7 = 32
          · have e : opW s = T16.getD (pc s 12 3) 0 := hop1.trans (pick_b hb)
            rcases h5 with h | h
            · rw [h] at e
              exact ref_no e (ref_imm27_3 s w hs h27 h (nb ha))
            · rw [h] at e
              exact ref_yes (o := 44) e hfm1 (by decide) (parts_sh _ s 5) (ref_imm27_2 s w hs h27 h hb)
          · have e : opW s = 0 := by
              by_cases hp : pc s 25 7 = 1
              · exact hop1.trans ((pick_p hp).trans (z8 _ hf))
              · exact hop1.trans ((pick_c ha hb hp hf).trans (z8 _ hf))
            rcases h5 with h | h
            · exact ref_no e (ref_imm27_3 s w hs h27 h (nb ha))
            · exact ref_no e (ref_imm27_4 s w hs h27 h (nb ha) (nb hb))
      · have n1 : pc s 12 3 ≠ 1 := fun h => h5 (.inl h)
        have n5 : pc s 12 3 ≠ 5 := fun h => h5 (.inr h)
        obtain ⟨z1, z2, z3⟩ := z_W _ hf h0 n1 n5
        have e : opW s = 0 := hop1.trans (pick_z _ _ _ _ _ z2 z3 (z8 _ hf))
        exact ref_no e (ref_imm27_z s w hs h27 (nb n1) (nb n5) z1)
  have hop : opW s = 0 := by unfold opW opC; rw [if_neg h55, if_neg h23, if_neg h111, if_neg h103, if_neg h99, if_neg h3, if_neg h35, if_neg h19, if_neg h51, if_neg h27, if_neg h59, if_neg h47, if_neg h15, if_neg h115]
  exact ref_no hop (ref_none s w hs (nb h55) (nb h23) (nb h111) (nb h103) (nb h3) (nb h99) (nb h35) (nb h19) (nb h27) (nb h51) (nb h59) (nb h47) (nb h15) (nb h115))
end Go.Proofs.YtionnhjldcpmjaaGreatDoor

set_option linter.unusedVariables false
set_option linter.unusedSimpArgs false
namespace Go.Proofs.YtionnhjldcpmjaaGreatDoor
open Go.RowKit
theorem enc_of {s : Nat} {X : Int} {K : Nat} {fm : Fm} (hop : opW s = X) (hfm : fmW s = fm) (h : opW s ≠ 0) (hK : keyW X = K) (hfK : fmW K = fm) (hl : layF (parts X s fm) K fm = s) : encS (dec s) = s := by
  have hn : fm ≠ .no := fun hn => h (no_zero _ _ _ _ (hfm.trans hn))
  have e : dec s = parts X s fm := by unfold dec; rw [if_neg h, hop, hfm]
  have e2 : (parts X s fm).op = X := by cases fm with
    | no => exact absurd rfl hn
    | _ => rfl
  unfold encS
  rw [e, e2, hK, hfK]
  exact hl
theorem key_T0 : ∀ f : Nat, f < 8 → T0.getD f 0 ≠ 0 → keyW (T0.getD f 0) = 103 + f * 4096 ∧ fmW (103 + f * 4096) = .im := by decide +kernel
theorem key_T1 : ∀ f : Nat, f < 8 → T1.getD f 0 ≠ 0 → keyW (T1.getD f 0) = 99 + f * 4096 ∧ fmW (99 + f * 4096) = .br := by decide +kernel
theorem key_T2 : ∀ f : Nat, f < 8 → T2.getD f 0 ≠ 0 → keyW (T2.getD f 0) = 3 + f * 4096 ∧ fmW (3 + f * 4096) = .im := by decide +kernel
theorem key_T3 : ∀ f : Nat, f < 8 → T3.getD f 0 ≠ 0 → keyW (T3.getD f 0) = 35 + f * 4096 ∧ fmW (35 + f * 4096) = .st := by decide +kernel
theorem key_T11 : ∀ f : Nat, f < 8 → T11.getD f 0 ≠ 0 → keyW (T11.getD f 0) = 19 + f * 4096 ∧ fmW (19 + f * 4096) = .im := by decide +kernel
theorem key_T4 : ∀ f : Nat, f < 8 → T4.getD f 0 ≠ 0 → keyW (T4.getD f 0) = 51 + f * 4096 + 0 * 33554432 ∧ fmW (51 + f * 4096 + 0 * 33554432) = .rg := by decide +kernel
theorem key_T5 : ∀ f : Nat, f < 8 → T5.getD f 0 ≠ 0 → keyW (T5.getD f 0) = 51 + f * 4096 + 32 * 33554432 ∧ fmW (51 + f * 4096 + 32 * 33554432) = .rg := by decide +kernel
theorem key_T6 : ∀ f : Nat, f < 8 → T6.getD f 0 ≠ 0 → keyW (T6.getD f 0) = 51 + f * 4096 + 1 * 33554432 ∧ fmW (51 + f * 4096 + 1 * 33554432) = .rg := by decide +kernel
theorem key_T7 : ∀ f : Nat, f < 8 → T7.getD f 0 ≠ 0 → keyW (T7.getD f 0) = 59 + f * 4096 + 0 * 33554432 ∧ fmW (59 + f * 4096 + 0 * 33554432) = .rg := by decide +kernel
theorem key_T8 : ∀ f : Nat, f < 8 → T8.getD f 0 ≠ 0 → keyW (T8.getD f 0) = 59 + f * 4096 + 32 * 33554432 ∧ fmW (59 + f * 4096 + 32 * 33554432) = .rg := by decide +kernel
theorem key_T9 : ∀ f : Nat, f < 8 → T9.getD f 0 ≠ 0 → keyW (T9.getD f 0) = 59 + f * 4096 + 1 * 33554432 ∧ fmW (59 + f * 4096 + 1 * 33554432) = .rg := by decide +kernel
theorem key_T12 : ∀ f : Nat, f < 8 → T12.getD f 0 ≠ 0 → keyW (T12.getD f 0) = 19 + f * 4096 + 0 * 67108864 ∧ fmW (19 + f * 4096 + 0 * 67108864) = (.sh 6) := by decide +kernel
theorem key_T13 : ∀ f : Nat, f < 8 → T13.getD f 0 ≠ 0 → keyW (T13.getD f 0) = 19 + f * 4096 + 16 * 67108864 ∧ fmW (19 + f * 4096 + 16 * 67108864) = (.sh 6) := by decide +kernel
theorem key_T15 : ∀ f : Nat, f < 8 → T15.getD f 0 ≠ 0 → keyW (T15.getD f 0) = 27 + f * 4096 + 0 * 33554432 ∧ fmW (27 + f * 4096 + 0 * 33554432) = (.sh 5) := by decide +kernel
theorem key_T16 : ∀ f : Nat, f < 8 → T16.getD f 0 ≠ 0 → keyW (T16.getD f 0) = 27 + f * 4096 + 32 * 33554432 ∧ fmW (27 + f * 4096 + 32 * 33554432) = (.sh 5) := by decide +kernel
theorem key_41 : keyW 41 = 27 + 0 * 4096 ∧ fmW (27 + 0 * 4096) = .im := by decide +kernel
theorem key_T17 : ∀ q : Nat, q < 32 → T17.getD q 0 ≠ 0 → keyW (T17.getD q 0) = 47 + 2 * 4096 + q * 134217728 ∧ fmW (47 + 2 * 4096 + q * 134217728) = .am := by decide +kernel
theorem key_T18 : ∀ q : Nat, q < 32 → T18.getD q 0 ≠ 0 → keyW (T18.getD q 0) = 47 + 3 * 4096 + q * 134217728 ∧ fmW (47 + 3 * 4096 + q * 134217728) = .am := by decide +kernel
theorem key_1 : keyW 1 = 55 ∧ fmW 55 = .up := by decide +kernel
theorem key_2 : keyW 2 = 23 ∧ fmW 23 = .up := by decide +kernel
theorem key_3 : keyW 3 = 111 ∧ fmW 111 = .jp := by decide +kernel
theorem key_87 : keyW 87 = 115 ∧ fmW 115 = .ba := by decide +kernel
theorem key_88 : keyW 88 = 1048691 ∧ fmW 1048691 = .ba := by decide +kernel
theorem fence_of : ∀ f : Nat, f < 8 → T10.getD f 0 = 0 ∨ T10.getD f 0 = 85 ∨ T10.getD f 0 = 86 := by decide
theorem lr_nz {o : Int} {p : Nat} (h : lrOf o p ≠ 0) : lrOf o p = o := by
  unfold lrOf at h ⊢
  split
  · rename_i hc; rw [if_pos hc] at h; exact absurd rfl h
  · rfl
set_option maxHeartbeats 1000000 in
theorem back_eq (s : Nat) (hs : s < 4294967296) (h : opW s ≠ 0) (h85 : opW s ≠ 85) (h86 : opW s ≠ 86) : encS (dec s) = s := by
  have hf : pc s 12 3 < 8 := pc_lt s 12 3
  have hg : pc s 25 7 < 128 := pc_lt s 25 7
  by_cases h55 : pc s 0 7 = 55
  · have hop : opW s = opC 55 (pc s 12 3) (pc s 25 7) s := by unfold opW; rw [h55]
    have hfm : fmW s = fmC 55 (pc s 12 3) := by unfold fmW; rw [h55]
    exact enc_of (X := 1) hop hfm h key_1.1 key_1.2 (by have e := back_up 1 s hs; rw [h55] at e; exact e)
  by_cases h23 : pc s 0 7 = 23
  · have hop : opW s = opC 23 (pc s 12 3) (pc s 25 7) s := by unfold opW; rw [h23]
    have hfm : fmW s = fmC 23 (pc s 12 3) := by unfold fmW; rw [h23]
    exact enc_of (X := 2) hop hfm h key_2.1 key_2.2 (by have e := back_up 2 s hs; rw [h23] at e; exact e)
  by_cases h111 : pc s 0 7 = 111
  · have hop : opW s = opC 111 (pc s 12 3) (pc s 25 7) s := by unfold opW; rw [h111]
    have hfm : fmW s = fmC 111 (pc s 12 3) := by unfold fmW; rw [h111]
    exact enc_of (X := 3) hop hfm h key_3.1 key_3.2 (by have e := back_jp 3 s hs; rw [h111] at e; exact e)
  by_cases h103 : pc s 0 7 = 103
  · have hop : opW s = opC 103 (pc s 12 3) (pc s 25 7) s := by unfold opW; rw [h103]
    have hfm : fmW s = fmC 103 (pc s 12 3) := by unfold fmW; rw [h103]
    have hop2 : opW s = T0.getD (pc s 12 3) 0 := hop
    have hz := h; rw [hop2] at hz
    obtain ⟨k1, k2⟩ := key_T0 _ hf hz
    exact enc_of hop2 hfm h k1 k2 (by have e := back_im (T0.getD (pc s 12 3) 0) s hs; rw [h103] at e; exact e)
  by_cases h99 : pc s 0 7 = 99
  · have hop : opW s = opC 99 (pc s 12 3) (pc s 25 7) s := by unfold opW; rw [h99]
    have hfm : fmW s = fmC 99 (pc s 12 3) := by unfold fmW; rw [h99]
    have hop2 : opW s = T1.getD (pc s 12 3) 0 := hop
    have hz := h; rw [hop2] at hz
    obtain ⟨k1, k2⟩ := key_T1 _ hf hz
    exact enc_of hop2 hfm h k1 k2 (by have e := back_br (T1.getD (pc s 12 3) 0) s hs; rw [h99] at e; exact e)
  by_cases h3 : pc s 0 7 = 3
  · have hop : opW s = opC 3 (pc s 12 3) (pc s 25 7) s := by unfold opW; rw [h3]
    have hfm : fmW s = fmC 3 (pc s 12 3) := by unfold fmW; rw [h3]
    have hop2 : opW s = T2.getD (pc s 12 3) 0 := hop
    have hz := h; rw [hop2] at hz
    obtain ⟨k1, k2⟩ := key_T2 _ hf hz
    exact enc_of hop2 hfm h k1 k2 (by have e := back_im (T2.getD (pc s 12 3) 0) s hs; rw [h3] at e; exact e)
  by_cases h35 : pc s 0 7 = 35
  · have hop : opW s = opC 35 (pc s 12 3) (pc s 25 7) s := by unfold opW; rw [h35]
    have hfm : fmW s = fmC 35 (pc s 12 3) := by unfold fmW; rw [h35]
    have hop2 : opW s = T3.getD (pc s 12 3) 0 := hop
    have hz := h; rw [hop2] at hz
    obtain ⟨k1, k2⟩ := key_T3 _ hf hz
    exact enc_of hop2 hfm h k1 k2 (by have e := back_st (T3.getD (pc s 12 3) 0) s hs; rw [h35] at e; exact e)
  by_cases h15 : pc s 0 7 = 15
  · have hop : opW s = opC 15 (pc s 12 3) (pc s 25 7) s := by unfold opW; rw [h15]
    have hfm : fmW s = fmC 15 (pc s 12 3) := by unfold fmW; rw [h15]
    have hop2 : opW s = T10.getD (pc s 12 3) 0 := hop
    rcases fence_of _ hf with e | e | e
    · exact absurd (hop2.trans e) h
    · exact absurd (hop2.trans e) h85
    · exact absurd (hop2.trans e) h86
  by_cases h115 : pc s 0 7 = 115
  · have hop : opW s = opC 115 (pc s 12 3) (pc s 25 7) s := by unfold opW; rw [h115]
    have hfm : fmW s = fmC 115 (pc s 12 3) := by unfold fmW; rw [h115]
    by_cases h1 : s = 115
    · have hop2 : opW s = 87 := hop.trans (if_pos h1)
      exact enc_of hop2 hfm h key_87.1 key_87.2 h1.symm
    · by_cases h2 : s = 1048691
      · have hop2 : opW s = 88 := hop.trans ((if_neg h1).trans (if_pos h2))
        exact enc_of hop2 hfm h key_88.1 key_88.2 h2.symm
      · exact absurd (hop.trans ((if_neg h1).trans (if_neg h2))) h
  by_cases h51 : pc s 0 7 = 51
  · have hop : opW s = opC 51 (pc s 12 3) (pc s 25 7) s := by unfold opW; rw [h51]
    have hfm : fmW s = fmC 51 (pc s 12 3) := by unfold fmW; rw [h51]
    by_cases h7_0 : pc s 25 7 = 0
    · have hop2 : opW s = T4.getD (pc s 12 3) 0 := hop.trans (pick_a h7_0)
      have hz := h; rw [hop2] at hz
      obtain ⟨k1, k2⟩ := key_T4 _ hf hz
      exact enc_of hop2 hfm h k1 k2 (by have e := back_rg (T4.getD (pc s 12 3) 0) s hs; rw [h51, h7_0] at e; exact e)
    by_cases h7_32 : pc s 25 7 = 32
    · have hop2 : opW s = T5.getD (pc s 12 3) 0 := hop.trans (pick_b h7_32)
      have hz := h; rw [hop2] at hz
      obtain ⟨k1, k2⟩ := key_T5 _ hf hz
      exact enc_of hop2 hfm h k1 k2 (by have e := back_rg (T5.getD (pc s 12 3) 0) s hs; rw [h51, h7_32] at e; exact e)
    by_cases h7_1 : pc s 25 7 = 1
    · have hop2 : opW s = T6.getD (pc s 12 3) 0 := hop.trans (pick_p h7_1)
      have hz := h; rw [hop2] at hz
      obtain ⟨k1, k2⟩ := key_T6 _ hf hz
      exact enc_of hop2 hfm h k1 k2 (by have e := back_rg (T6.getD (pc s 12 3) 0) s hs; rw [h51, h7_1] at e; exact e)
    exact absurd (hop.trans ((pick_c h7_0 h7_32 h7_1 hf).trans (z8 _ hf))) h
  by_cases h59 : pc s 0 7 = 59
  · have hop : opW s = opC 59 (pc s 12 3) (pc s 25 7) s := by unfold opW; rw [h59]
    have hfm : fmW s = fmC 59 (pc s 12 3) := by unfold fmW; rw [h59]
    by_cases h7_0 : pc s 25 7 = 0
    · have hop2 : opW s = T7.getD (pc s 12 3) 0 := hop.trans (pick_a h7_0)
      have hz := h; rw [hop2] at hz
      obtain ⟨k1, k2⟩ := key_T7 _ hf hz
      exact enc_of hop2 hfm h k1 k2 (by have e := back_rg (T7.getD (pc s 12 3) 0) s hs; rw [h59, h7_0] at e; exact e)
    by_cases h7_32 : pc s 25 7 = 32
    · have hop2 : opW s = T8.getD (pc s 12 3) 0 := hop.trans (pick_b h7_32)
      have hz := h; rw [hop2] at hz
      obtain ⟨k1, k2⟩ := key_T8 _ hf hz
      exact enc_of hop2 hfm h k1 k2 (by have e := back_rg (T8.getD (pc s 12 3) 0) s hs; rw [h59, h7_32] at e; exact e)
    by_cases h7_1 : pc s 25 7 = 1
    · have hop2 : opW s = T9.getD (pc s 12 3) 0 := hop.trans (pick_p h7_1)
      have hz := h; rw [hop2] at hz
      obtain ⟨k1, k2⟩ := key_T9 _ hf hz
      exact enc_of hop2 hfm h k1 k2 (by have e := back_rg (T9.getD (pc s 12 3) 0) s hs; rw [h59, h7_1] at e; exact e)
    exact absurd (hop.trans ((pick_c h7_0 h7_32 h7_1 hf).trans (z8 _ hf))) h
  by_cases h19 : pc s 0 7 = 19
  · have hop : opW s = opC 19 (pc s 12 3) (pc s 25 7) s := by unfold opW; rw [h19]
    have hfm : fmW s = fmC 19 (pc s 12 3) := by unfold fmW; rw [h19]
    by_cases h5 : pc s 12 3 = 1 ∨ pc s 12 3 = 5
    · have hop1 : opW s = pick3 (pc s 25 7 / 2 * 2) T12 T13 Z8 (pc s 12 3) := hop.trans (if_pos h5)
      have hfm1 : fmW s = .sh 6 := hfm.trans (if_pos h5)
      have hu := up_half s
      by_cases ha : pc s 26 6 = 0
      · have hop2 : opW s = T12.getD (pc s 12 3) 0 := hop1.trans (pick_a (by omega))
        have hz := h; rw [hop2] at hz
        obtain ⟨k1, k2⟩ := key_T12 _ hf hz
        exact enc_of hop2 hfm1 h k1 k2 (by have e := back_sh6 (T12.getD (pc s 12 3) 0) s hs; rw [h19, ha] at e; exact e)
      · by_cases hb : pc s 26 6 = 16
        · have hop2 : opW s = T13.getD (pc s 12 3) 0 := hop1.trans (pick_b (by omega))
          have hz := h; rw [hop2] at hz
          obtain ⟨k1, k2⟩ := key_T13 _ hf hz
          exact enc_of hop2 hfm1 h k1 k2 (by have e := back_sh6 (T13.getD (pc s 12 3) 0) s hs; rw [h19, hb] at e; exact e)
        · exact absurd (hop1.trans ((pick_c (by omega) (by omega) (by omega) hf).trans (z8 _ hf))) h
    · have hop2 : opW s = T11.getD (pc s 12 3) 0 := hop.trans (if_neg h5)
      have hfm1 : fmW s = .im := hfm.trans (if_neg h5)
      have hz := h; rw [hop2] at hz
      obtain ⟨k1, k2⟩ := key_T11 _ hf hz
      exact enc_of hop2 hfm1 h k1 k2 (by have e := back_im (T11.getD (pc s 12 3) 0) s hs; rw [h19] at e; exact e)
  by_cases h27 : pc s 0 7 = 27
  · have hop : opW s = opC 27 (pc s 12 3) (pc s 25 7) s := by unfold opW; rw [h27]
    have hfm : fmW s = fmC 27 (pc s 12 3) := by unfold fmW; rw [h27]
    by_cases h0 : pc s 12 3 = 0
    · have hop2 : opW s = 41 := hop.trans (if_pos h0)
      have hfm1 : fmW s = .im := hfm.trans (if_pos h0)
      exact enc_of hop2 hfm1 h key_41.1 key_41.2 (by have e := back_im 41 s hs; rw [h27, h0] at e; exact e)
    · have hop1 : opW s = pick3 (pc s 25 7) T15 T16 Z8 (pc s 12 3) := hop.trans (if_neg h0)
      have hfm1 : fmW s = .sh 5 := hfm.trans (if_neg h0)
      by_cases ha : pc s 25 7 = 0
      · have hop2 : opW s = T15.getD (pc s 12 3) 0 := hop1.trans (pick_a ha)
        have hz := h; rw [hop2] at hz
        obtain ⟨k1, k2⟩ := key_T15 _ hf hz
        exact enc_of hop2 hfm1 h k1 k2 (by have e := back_sh5 (T15.getD (pc s 12 3) 0) s hs; rw [h27, ha] at e; exact e)
      · by_cases hb : pc s 25 7 = 32
        · have hop2 : opW s = T16.getD (pc s 12 3) 0 := hop1.trans (pick_b hb)
          have hz := h; rw [hop2] at hz
          obtain ⟨k1, k2⟩ := key_T16 _ hf hz
          exact enc_of hop2 hfm1 h k1 k2 (by have e := back_sh5 (T16.getD (pc s 12 3) 0) s hs; rw [h27, hb] at e; exact e)
        · have e : opW s = 0 := by
            by_cases hp : pc s 25 7 = 1
            · exact hop1.trans ((pick_p hp).trans (z8 _ hf))
            · exact hop1.trans ((pick_c ha hb hp hf).trans (z8 _ hf))
          exact absurd e h
  by_cases h47 : pc s 0 7 = 47
  · have hop : opW s = opC 47 (pc s 12 3) (pc s 25 7) s := by unfold opW; rw [h47]
    have hfm : fmW s = fmC 47 (pc s 12 3) := by unfold fmW; rw [h47]
    have hop1 : opW s = lrOf (if pc s 12 3 = 2 then T17.getD (pc s 27 5) 0 else if pc s 12 3 = 3 then T18.getD (pc s 27 5) 0 else 0) (pc s 20 5) := hop
    have hz := h; rw [hop1] at hz
    have hop2 := hop1.trans (lr_nz hz)
    by_cases h2 : pc s 12 3 = 2
    · rw [if_pos h2] at hop2
      have hz2 := h; rw [hop2] at hz2
      obtain ⟨k1, k2⟩ := key_T17 _ (pc_lt s 27 5) hz2
      exact enc_of hop2 hfm h k1 k2 (by have e := back_am (T17.getD (pc s 27 5) 0) s hs; rw [h47, h2] at e; exact e)
    · rw [if_neg h2] at hop2
      by_cases h3 : pc s 12 3 = 3
      · rw [if_pos h3] at hop2
        have hz2 := h; rw [hop2] at hz2
        obtain ⟨k1, k2⟩ := key_T18 _ (pc_lt s 27 5) hz2
        exact enc_of hop2 hfm h k1 k2 (by have e := back_am (T18.getD (pc s 27 5) 0) s hs; rw [h47, h3] at e; exact e)
      · rw [if_neg h3] at hop2
        exact absurd hop2 h
  exact absurd (by unfold opW opC; rw [if_neg h55, if_neg h23, if_neg h111, if_neg h103, if_neg h99, if_neg h3, if_neg h35, if_neg h19, if_neg h51, if_neg h27, if_neg h59, if_neg h47, if_neg h15, if_neg h115]) h

theorem lt_tabs : ∀ f : Nat, f < 8 → (T0.getD f 0 < 85) ∧ (T1.getD f 0 < 85) ∧ (T2.getD f 0 < 85) ∧ (T3.getD f 0 < 85) ∧ (T4.getD f 0 < 85) ∧ (T5.getD f 0 < 85) ∧ (T6.getD f 0 < 85) ∧ (T7.getD f 0 < 85) ∧ (T8.getD f 0 < 85) ∧ (T9.getD f 0 < 85) ∧ (T11.getD f 0 < 85) ∧ (T12.getD f 0 < 85) ∧ (T13.getD f 0 < 85) ∧ (T15.getD f 0 < 85) ∧ (T16.getD f 0 < 85) := by decide
theorem lt_at : ∀ q : Nat, q < 32 → T17.getD q 0 < 85 ∧ T18.getD q 0 < 85 := by decide
theorem pick_lt {g f : Nat} {a b c : List Int} (ha : a.getD f 0 < 85) (hb : b.getD f 0 < 85) (hc : c.getD f 0 < 85) : pick3 g a b c f < 85 := by
  unfold pick3; repeat' split
  all_goals first | assumption | decide
theorem lr_lt {o : Int} {p : Nat} (h : o < 85) : lrOf o p < 85 := by unfold lrOf; split <;> omega
set_option maxHeartbeats 1000000 in
theorem fence_form (s : Nat) (h : opW s = 85 ∨ opW s = 86) : fmW s = .ba := by
  have hf : pc s 12 3 < 8 := pc_lt s 12 3
  obtain ⟨t0, t1, t2, t3, t4, t5, t6, t7, t8, t9, t11, t12, t13, t15, t16⟩ := lt_tabs _ hf
  have tz : Z8.getD (pc s 12 3) 0 < 85 := by rw [z8 _ hf]; decide
  have hge : 85 ≤ opW s := by omega
  by_cases h15 : pc s 0 7 = 15
  · unfold fmW; rw [h15]; rfl
  by_cases h115 : pc s 0 7 = 115
  · unfold fmW; rw [h115]; rfl
  exfalso
  by_cases h55 : pc s 0 7 = 55
  · have hop : opW s = opC 55 (pc s 12 3) (pc s 25 7) s := by unfold opW; rw [h55]
    have e : opW s = (1 : Int) := hop
    omega
  by_cases h23 : pc s 0 7 = 23
  · have hop : opW s = opC 23 (pc s 12 3) (pc s 25 7) s := by unfold opW; rw [h23]
    have e : opW s = (2 : Int) := hop
    omega
  by_cases h111 : pc s 0 7 = 111
  · have hop : opW s = opC 111 (pc s 12 3) (pc s 25 7) s := by unfold opW; rw [h111]
    have e : opW s = (3 : Int) := hop
    omega
  by_cases h103 : pc s 0 7 = 103
  · have hop : opW s = opC 103 (pc s 12 3) (pc s 25 7) s := by unfold opW; rw [h103]
    have e : opW s = T0.getD (pc s 12 3) 0 := hop
    omega
  by_cases h99 : pc s 0 7 = 99
  · have hop : opW s = opC 99 (pc s 12 3) (pc s 25 7) s := by unfold opW; rw [h99]
    have e : opW s = T1.getD (pc s 12 3) 0 := hop
    omega
  by_cases h3 : pc s 0 7 = 3
  · have hop : opW s = opC 3 (pc s 12 3) (pc s 25 7) s := by unfold opW; rw [h3]
    have e : opW s = T2.getD (pc s 12 3) 0 := hop
    omega
  by_cases h35 : pc s 0 7 = 35
  · have hop : opW s = opC 35 (pc s 12 3) (pc s 25 7) s := by unfold opW; rw [h35]
    have e : opW s = T3.getD (pc s 12 3) 0 := hop
    omega
  by_cases h19 : pc s 0 7 = 19
  · have hop : opW s = opC 19 (pc s 12 3) (pc s 25 7) s := by unfold opW; rw [h19]
    by_cases h5 : pc s 12 3 = 1 ∨ pc s 12 3 = 5
    · have e : opW s = pick3 (pc s 25 7 / 2 * 2) T12 T13 Z8 (pc s 12 3) := hop.trans (if_pos h5)
      have := pick_lt (g := pc s 25 7 / 2 * 2) t12 t13 tz
      omega
    · have e : opW s = T11.getD (pc s 12 3) 0 := hop.trans (if_neg h5)
      omega
  by_cases h51 : pc s 0 7 = 51
  · have hop : opW s = opC 51 (pc s 12 3) (pc s 25 7) s := by unfold opW; rw [h51]
    have e : opW s = pick3 (pc s 25 7) T4 T5 T6 (pc s 12 3) := hop
    have := pick_lt (g := pc s 25 7) t4 t5 t6
    omega
  by_cases h59 : pc s 0 7 = 59
  · have hop : opW s = opC 59 (pc s 12 3) (pc s 25 7) s := by unfold opW; rw [h59]
    have e : opW s = pick3 (pc s 25 7) T7 T8 T9 (pc s 12 3) := hop
    have := pick_lt (g := pc s 25 7) t7 t8 t9
    omega
  by_cases h27 : pc s 0 7 = 27
  · have hop : opW s = opC 27 (pc s 12 3) (pc s 25 7) s := by unfold opW; rw [h27]
    by_cases h0 : pc s 12 3 = 0
    · have e : opW s = 41 := hop.trans (if_pos h0)
      omega
    · have e : opW s = pick3 (pc s 25 7) T15 T16 Z8 (pc s 12 3) := hop.trans (if_neg h0)
      have := pick_lt (g := pc s 25 7) t15 t16 tz
      omega
  by_cases h47 : pc s 0 7 = 47
  · have hop : opW s = opC 47 (pc s 12 3) (pc s 25 7) s := by unfold opW; rw [h47]
    have e : opW s = lrOf (if pc s 12 3 = 2 then T17.getD (pc s 27 5) 0 else if pc s 12 3 = 3 then T18.getD (pc s 27 5) 0 else 0) (pc s 20 5) := hop
    obtain ⟨l1, l2⟩ := lt_at _ (pc_lt s 27 5)
    have l3 : (if pc s 12 3 = 2 then T17.getD (pc s 27 5) 0 else if pc s 12 3 = 3 then T18.getD (pc s 27 5) 0 else 0) < 85 := by
      repeat' split
      all_goals first | exact l1 | exact l2 | decide
    have := lr_lt (p := pc s 20 5) l3
    omega
  have e : opW s = 0 := by unfold opW opC; rw [if_neg h55, if_neg h23, if_neg h111, if_neg h103, if_neg h99, if_neg h3, if_neg h35, if_neg h19, if_neg h51, if_neg h27, if_neg h59, if_neg h47, if_neg h15, if_neg h115]
  omega
/-- Fences. -/
theorem dec_fence (s : Nat) (o : Int) (ho : opW s = o) (h : o = 85 ∨ o = 86) (hs : s < 4294967296) : dec s = ⟨o, 0, 0, 0, 0, 0, 4⟩ := by
  have h0 : opW s ≠ 0 := by rw [ho]; rcases h with rfl | rfl <;> decide
  have e : dec s = parts (opW s) s (fmW s) := if_neg h0
  have hb : fmW s = .ba := fence_form s (by rw [ho]; exact h)
  rw [e, hb, ho]; rfl
end Go.Proofs.YtionnhjldcpmjaaGreatDoor
