/-
  Plain facts: the immediates out of a word's pieces, joined by or and by sums.
-/
import Derived.Test.YtionnhjldcpmjaaGreatDoorDecodeB
set_option linter.unusedVariables false
set_option linter.unusedSimpArgs false
namespace Go.Proofs.YtionnhjldcpmjaaGreatDoor
set_option maxRecDepth 100000
open Go.RowKit

theorem i64_or_nat (a b : Nat) (ha : a < 9223372036854775808) (hb : b < 9223372036854775808) : bits .or .i64 (a : Int) (b : Int) = ((a ||| b : Nat) : Int) := by
  have hx : a ||| b < 2 ^ 63 := Nat.or_lt_two_pow (by omega) (by omega)
  show IntKind.i64.wrap ((BitVec.ofInt 64 (a : Int) ||| BitVec.ofInt 64 (b : Int)).toNat : Int) = _
  rw [BitVec.toNat_or, ofInt_u64 a (by omega), ofInt_u64 b (by omega)]
  exact IntWalk.i64_in _ (by omega)
theorem tk_zero (s a m : Nat) : tk s a m 0 = (pc s a m : Nat) := by unfold tk; simp
theorem low32 (n : Int) : low n 32 = (n + 2147483648) % 4294967296 - 2147483648 := rfl
theorem low21 (n : Int) : low n 21 = (n + 1048576) % 2097152 - 1048576 := rfl
theorem low20' (n : Int) : low n 20 = (n + 524288) % 1048576 - 524288 := rfl
theorem low13 (n : Int) : low n 13 = (n + 4096) % 8192 - 4096 := rfl
theorem low12' (n : Int) : low n 12 = (n + 2048) % 4096 - 2048 := rfl
/-- Whole pages. -/
theorem imU (s : Nat) : low (tk s 12 20 12) 32 = low (pc s 12 20 : Nat) 20 * 4096 := by
  have h : tk s 12 20 12 = ((pc s 12 20 : Nat) : Int) * 4096 := by unfold tk; simp
  rw [h, low32, low20']
  omega
theorem orJ (a b c d : Nat) (ha : a < 2) (hb : b < 256) (hc : c < 2) (hd : d < 1024) :
    bits .or .i64 (bits .or .i64 (bits .or .i64 ((a * 2 ^ 20 : Nat) : Int) ((b * 2 ^ 12 : Nat) : Int)) ((c * 2 ^ 11 : Nat) : Int)) ((d * 2 ^ 1 : Nat) : Int) = ((a * 1048576 + b * 4096 + c * 2048 + d * 2 : Nat) : Int) := by
  simp only [Nat.reducePow]
  rw [i64_or_nat (a * 1048576) (b * 4096) (by omega) (by omega), nat_join 20 (a * 1048576) (b * 4096) (by show a * 1048576 % 1048576 = 0; omega) (by show b * 4096 < 1048576; omega),
    i64_or_nat _ (c * 2048) (by omega) (by omega), nat_join 12 (a * 1048576 + b * 4096) (c * 2048) (by show (a * 1048576 + b * 4096) % 4096 = 0; omega) (by show c * 2048 < 4096; omega),
    i64_or_nat _ (d * 2) (by omega) (by omega), nat_join 11 (a * 1048576 + b * 4096 + c * 2048) (d * 2) (by show (a * 1048576 + b * 4096 + c * 2048) % 2048 = 0; omega) (by show d * 2 < 2048; omega)]
theorem orB (a b c d : Nat) (ha : a < 2) (hb : b < 2) (hc : c < 64) (hd : d < 16) :
    bits .or .i64 (bits .or .i64 (bits .or .i64 ((a * 2 ^ 12 : Nat) : Int) ((b * 2 ^ 11 : Nat) : Int)) ((c * 2 ^ 5 : Nat) : Int)) ((d * 2 ^ 1 : Nat) : Int) = ((a * 4096 + b * 2048 + c * 32 + d * 2 : Nat) : Int) := by
  simp only [Nat.reducePow]
  rw [i64_or_nat (a * 4096) (b * 2048) (by omega) (by omega), nat_join 12 (a * 4096) (b * 2048) (by show a * 4096 % 4096 = 0; omega) (by show b * 2048 < 4096; omega),
    i64_or_nat _ (c * 32) (by omega) (by omega), nat_join 11 (a * 4096 + b * 2048) (c * 32) (by show (a * 4096 + b * 2048) % 2048 = 0; omega) (by show c * 32 < 2048; omega),
    i64_or_nat _ (d * 2) (by omega) (by omega), nat_join 5 (a * 4096 + b * 2048 + c * 32) (d * 2) (by show (a * 4096 + b * 2048 + c * 32) % 32 = 0; omega) (by show d * 2 < 32; omega)]
theorem orS (a b : Nat) (ha : a < 128) (hb : b < 32) : bits .or .i64 ((a * 2 ^ 5 : Nat) : Int) ((b * 2 ^ 0 : Nat) : Int) = ((a * 32 + b : Nat) : Int) := by
  simp only [Nat.reducePow, Nat.mul_one]
  rw [i64_or_nat (a * 32) b (by omega) (by omega), nat_join 5 (a * 32) b (by show a * 32 % 32 = 0; omega) (by show b < 32; omega)]
/-- What the form of a jump reckons. -/
theorem imJ (s : Nat) : low (bits .or .i64 (bits .or .i64 (bits .or .i64 (tk s 31 1 20) (tk s 12 8 12)) (tk s 20 1 11)) (tk s 21 10 1)) 21 =
    low ((((pc s 31 1 : Nat) * 256 + (pc s 12 8 : Nat)) * 2 + (pc s 20 1 : Nat)) * 1024 + (pc s 21 10 : Nat) : Int) 20 * 2 := by
  have ha : pc s 31 1 < 2 := pc_lt s 31 1
  have hb : pc s 12 8 < 256 := pc_lt s 12 8
  have hc : pc s 20 1 < 2 := pc_lt s 20 1
  have hd : pc s 21 10 < 1024 := pc_lt s 21 10
  unfold tk
  rw [orJ _ _ _ _ ha hb hc hd, low21, low20']
  omega
theorem imB (s : Nat) : low (bits .or .i64 (bits .or .i64 (bits .or .i64 (tk s 31 1 12) (tk s 7 1 11)) (tk s 25 6 5)) (tk s 8 4 1)) 13 =
    low ((((pc s 31 1 : Nat) * 2 + (pc s 7 1 : Nat)) * 64 + (pc s 25 6 : Nat)) * 16 + (pc s 8 4 : Nat) : Int) 12 * 2 := by
  have ha : pc s 31 1 < 2 := pc_lt s 31 1
  have hb : pc s 7 1 < 2 := pc_lt s 7 1
  have hc : pc s 25 6 < 64 := pc_lt s 25 6
  have hd : pc s 8 4 < 16 := pc_lt s 8 4
  unfold tk
  rw [orB _ _ _ _ ha hb hc hd, low13, low12']
  omega
theorem imS (s : Nat) : low (bits .or .i64 (tk s 25 7 5) (tk s 7 5 0)) 12 = low ((pc s 25 7 : Nat) * 32 + (pc s 7 5 : Nat) : Int) 12 := by
  have ha : pc s 25 7 < 128 := pc_lt s 25 7
  have hb : pc s 7 5 < 32 := pc_lt s 7 5
  unfold tk
  rw [orS _ _ ha hb]
  congr 1
/-- The parts of each form, by pieces of the word. -/
theorem parts_up (o : Int) (s : Nat) : (parts o s .up).cells = I7 o (pc s 7 5 : Nat) 0 0 (low (pc s 12 20 : Nat) 20 * 4096) 0 4 := by
  show I7 o (tk s 7 5 0) 0 0 (low (tk s 12 20 12) 32) 0 4 = _
  rw [imU, tk_zero]
theorem parts_jp (o : Int) (s : Nat) : (parts o s .jp).cells = I7 o (pc s 7 5 : Nat) 0 0 (low ((((pc s 31 1 : Nat) * 256 + (pc s 12 8 : Nat)) * 2 + (pc s 20 1 : Nat)) * 1024 + (pc s 21 10 : Nat) : Int) 20 * 2) 0 4 := by
  rw [← imJ, ← tk_zero]; rfl
theorem parts_im (o : Int) (s : Nat) : (parts o s .im).cells = I7 o (pc s 7 5 : Nat) (pc s 15 5 : Nat) 0 (low (pc s 20 12 : Nat) 12) 0 4 := by
  simp only [← tk_zero]; rfl
theorem parts_br (o : Int) (s : Nat) : (parts o s .br).cells = I7 o 0 (pc s 15 5 : Nat) (pc s 20 5 : Nat) (low ((((pc s 31 1 : Nat) * 2 + (pc s 7 1 : Nat)) * 64 + (pc s 25 6 : Nat)) * 16 + (pc s 8 4 : Nat) : Int) 12 * 2) 0 4 := by
  rw [← imB, ← tk_zero, ← tk_zero]; rfl
theorem parts_st (o : Int) (s : Nat) : (parts o s .st).cells = I7 o 0 (pc s 15 5 : Nat) (pc s 20 5 : Nat) (low ((pc s 25 7 : Nat) * 32 + (pc s 7 5 : Nat) : Int) 12) 0 4 := by
  rw [← imS, ← tk_zero, ← tk_zero]; rfl
theorem parts_rg (o : Int) (s : Nat) : (parts o s .rg).cells = I7 o (pc s 7 5 : Nat) (pc s 15 5 : Nat) (pc s 20 5 : Nat) 0 0 4 := by
  simp only [← tk_zero]; rfl
theorem parts_am (o : Int) (s : Nat) : (parts o s .am).cells = I7 o (pc s 7 5 : Nat) (pc s 15 5 : Nat) (pc s 20 5 : Nat) 0 (pc s 25 2 : Nat) 4 := by
  simp only [← tk_zero]; rfl
theorem parts_sh (o : Int) (s m : Nat) : (parts o s (.sh m)).cells = I7 o (pc s 7 5 : Nat) (pc s 15 5 : Nat) 0 (pc s 20 m : Nat) 0 4 := by
  simp only [← tk_zero]; rfl
theorem parts_ba (o : Int) (s : Nat) : (parts o s .ba).cells = I7 o 0 0 0 0 0 4 := rfl
end Go.Proofs.YtionnhjldcpmjaaGreatDoor
