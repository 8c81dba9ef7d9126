/-
  Each word that is an instruction's, but of fences: its pieces laid back are the word.
-/
import Derived.Test.YtionnhjldcpmjaaGreatDoorInstN
set_option linter.unusedVariables false
set_option linter.unusedSimpArgs false
namespace Go.Proofs.YtionnhjldcpmjaaGreatDoor
open Go.RowKit
theorem lay_up (i : Ins) (c : Nat) (hc : c < 128) : layF i (c) .up = c + gv i.rd 5 0 * 128 + gv i.im 20 12 * 4096 := by
  show (ly (ly (c) i.rd 7 5 0) i.im 12 20 12) = _
  have g0 : gv i.rd 5 0 < 32 := gv_lt i.rd 5 0
  have g1 : gv i.im 20 12 < 1048576 := gv_lt i.im 20 12
  rw [ly_add (s := (c)) i.rd 0 (by simp only [Nat.reducePow]; omega)]
  simp only [Nat.reducePow]
  rw [ly_add (s := ((c) + gv i.rd 5 0 * 128)) i.im 12 (by simp only [Nat.reducePow]; omega)]

theorem lay_jp (i : Ins) (c : Nat) (hc : c < 128) : layF i (c) .jp = c + gv i.rd 5 0 * 128 + gv i.im 1 20 * 2147483648 + gv i.im 8 12 * 4096 + gv i.im 1 11 * 1048576 + gv i.im 10 1 * 2097152 := by
  show (ly (ly (ly (ly (ly (c) i.rd 7 5 0) i.im 31 1 20) i.im 12 8 12) i.im 20 1 11) i.im 21 10 1) = _
  have g0 : gv i.rd 5 0 < 32 := gv_lt i.rd 5 0
  have g1 : gv i.im 1 20 < 2 := gv_lt i.im 1 20
  have g2 : gv i.im 8 12 < 256 := gv_lt i.im 8 12
  have g3 : gv i.im 1 11 < 2 := gv_lt i.im 1 11
  have g4 : gv i.im 10 1 < 1024 := gv_lt i.im 10 1
  rw [ly_add (s := (c)) i.rd 0 (by simp only [Nat.reducePow]; omega)]
  simp only [Nat.reducePow]
  rw [ly_add (s := ((c) + gv i.rd 5 0 * 128)) i.im 20 (by simp only [Nat.reducePow]; omega)]
  simp only [Nat.reducePow]
  rw [ly_add (s := (((c) + gv i.rd 5 0 * 128) + gv i.im 1 20 * 2147483648)) i.im 12 (by simp only [Nat.reducePow]; omega)]
  simp only [Nat.reducePow]
  rw [ly_add (s := ((((c) + gv i.rd 5 0 * 128) + gv i.im 1 20 * 2147483648) + gv i.im 8 12 * 4096)) i.im 11 (by simp only [Nat.reducePow]; omega)]
  simp only [Nat.reducePow]
  rw [ly_add (s := (((((c) + gv i.rd 5 0 * 128) + gv i.im 1 20 * 2147483648) + gv i.im 8 12 * 4096) + gv i.im 1 11 * 1048576)) i.im 1 (by simp only [Nat.reducePow]; omega)]

theorem lay_im (i : Ins) (c f : Nat) (hc : c < 128) (hf : f < 8) : layF i (c + f * 4096) .im = c + f * 4096 + gv i.rd 5 0 * 128 + gv i.r1 5 0 * 32768 + gv i.im 12 0 * 1048576 := by
  show (ly (ly (ly (c + f * 4096) i.rd 7 5 0) i.r1 15 5 0) i.im 20 12 0) = _
  have g0 : gv i.rd 5 0 < 32 := gv_lt i.rd 5 0
  have g1 : gv i.r1 5 0 < 32 := gv_lt i.r1 5 0
  have g2 : gv i.im 12 0 < 4096 := gv_lt i.im 12 0
  rw [ly_add (s := (c + f * 4096)) i.rd 0 (by simp only [Nat.reducePow]; omega)]
  simp only [Nat.reducePow]
  rw [ly_add (s := ((c + f * 4096) + gv i.rd 5 0 * 128)) i.r1 0 (by simp only [Nat.reducePow]; omega)]
  simp only [Nat.reducePow]
  rw [ly_add (s := (((c + f * 4096) + gv i.rd 5 0 * 128) + gv i.r1 5 0 * 32768)) i.im 0 (by simp only [Nat.reducePow]; omega)]

theorem lay_br (i : Ins) (c f : Nat) (hc : c < 128) (hf : f < 8) : layF i (c + f * 4096) .br = c + f * 4096 + gv i.r1 5 0 * 32768 + gv i.r2 5 0 * 1048576 + gv i.im 1 12 * 2147483648 + gv i.im 1 11 * 128 + gv i.im 6 5 * 33554432 + gv i.im 4 1 * 256 := by
  show (ly (ly (ly (ly (ly (ly (c + f * 4096) i.r1 15 5 0) i.r2 20 5 0) i.im 31 1 12) i.im 7 1 11) i.im 25 6 5) i.im 8 4 1) = _
  have g0 : gv i.r1 5 0 < 32 := gv_lt i.r1 5 0
  have g1 : gv i.r2 5 0 < 32 := gv_lt i.r2 5 0
  have g2 : gv i.im 1 12 < 2 := gv_lt i.im 1 12
  have g3 : gv i.im 1 11 < 2 := gv_lt i.im 1 11
  have g4 : gv i.im 6 5 < 64 := gv_lt i.im 6 5
  have g5 : gv i.im 4 1 < 16 := gv_lt i.im 4 1
  rw [ly_add (s := (c + f * 4096)) i.r1 0 (by simp only [Nat.reducePow]; omega)]
  simp only [Nat.reducePow]
  rw [ly_add (s := ((c + f * 4096) + gv i.r1 5 0 * 32768)) i.r2 0 (by simp only [Nat.reducePow]; omega)]
  simp only [Nat.reducePow]
  rw [ly_add (s := (((c + f * 4096) + gv i.r1 5 0 * 32768) + gv i.r2 5 0 * 1048576)) i.im 12 (by simp only [Nat.reducePow]; omega)]
  simp only [Nat.reducePow]
  rw [ly_add (s := ((((c + f * 4096) + gv i.r1 5 0 * 32768) + gv i.r2 5 0 * 1048576) + gv i.im 1 12 * 2147483648)) i.im 11 (by simp only [Nat.reducePow]; omega)]
  simp only [Nat.reducePow]
  rw [ly_add (s := (((((c + f * 4096) + gv i.r1 5 0 * 32768) + gv i.r2 5 0 * 1048576) + gv i.im 1 12 * 2147483648) + gv i.im 1 11 * 128)) i.im 5 (by simp only [Nat.reducePow]; omega)]
  simp only [Nat.reducePow]
  rw [ly_add (s := ((((((c + f * 4096) + gv i.r1 5 0 * 32768) + gv i.r2 5 0 * 1048576) + gv i.im 1 12 * 2147483648) + gv i.im 1 11 * 128) + gv i.im 6 5 * 33554432)) i.im 1 (by simp only [Nat.reducePow]; omega)]

theorem lay_st (i : Ins) (c f : Nat) (hc : c < 128) (hf : f < 8) : layF i (c + f * 4096) .st = c + f * 4096 + gv i.r1 5 0 * 32768 + gv i.r2 5 0 * 1048576 + gv i.im 7 5 * 33554432 + gv i.im 5 0 * 128 := by
  show (ly (ly (ly (ly (c + f * 4096) i.r1 15 5 0) i.r2 20 5 0) i.im 25 7 5) i.im 7 5 0) = _
  have g0 : gv i.r1 5 0 < 32 := gv_lt i.r1 5 0
  have g1 : gv i.r2 5 0 < 32 := gv_lt i.r2 5 0
  have g2 : gv i.im 7 5 < 128 := gv_lt i.im 7 5
  have g3 : gv i.im 5 0 < 32 := gv_lt i.im 5 0
  rw [ly_add (s := (c + f * 4096)) i.r1 0 (by simp only [Nat.reducePow]; omega)]
  simp only [Nat.reducePow]
  rw [ly_add (s := ((c + f * 4096) + gv i.r1 5 0 * 32768)) i.r2 0 (by simp only [Nat.reducePow]; omega)]
  simp only [Nat.reducePow]
  rw [ly_add (s := (((c + f * 4096) + gv i.r1 5 0 * 32768) + gv i.r2 5 0 * 1048576)) i.im 5 (by simp only [Nat.reducePow]; omega)]
  simp only [Nat.reducePow]
  rw [ly_add (s := ((((c + f * 4096) + gv i.r1 5 0 * 32768) + gv i.r2 5 0 * 1048576) + gv i.im 7 5 * 33554432)) i.im 0 (by simp only [Nat.reducePow]; omega)]

theorem lay_rg (i : Ins) (c f g : Nat) (hc : c < 128) (hf : f < 8) (hg : g < 128) : layF i (c + f * 4096 + g * 33554432) .rg = c + f * 4096 + g * 33554432 + gv i.rd 5 0 * 128 + gv i.r1 5 0 * 32768 + gv i.r2 5 0 * 1048576 := by
  show (ly (ly (ly (c + f * 4096 + g * 33554432) i.rd 7 5 0) i.r1 15 5 0) i.r2 20 5 0) = _
  have g0 : gv i.rd 5 0 < 32 := gv_lt i.rd 5 0
  have g1 : gv i.r1 5 0 < 32 := gv_lt i.r1 5 0
  have g2 : gv i.r2 5 0 < 32 := gv_lt i.r2 5 0
  rw [ly_add (s := (c + f * 4096 + g * 33554432)) i.rd 0 (by simp only [Nat.reducePow]; omega)]
  simp only [Nat.reducePow]
  rw [ly_add (s := ((c + f * 4096 + g * 33554432) + gv i.rd 5 0 * 128)) i.r1 0 (by simp only [Nat.reducePow]; omega)]
  simp only [Nat.reducePow]
  rw [ly_add (s := (((c + f * 4096 + g * 33554432) + gv i.rd 5 0 * 128) + gv i.r1 5 0 * 32768)) i.r2 0 (by simp only [Nat.reducePow]; omega)]

theorem lay_am (i : Ins) (c f q : Nat) (hc : c < 128) (hf : f < 8) (hq : q < 32) : layF i (c + f * 4096 + q * 134217728) .am = c + f * 4096 + q * 134217728 + gv i.rd 5 0 * 128 + gv i.r1 5 0 * 32768 + gv i.r2 5 0 * 1048576 + gv i.od 2 0 * 33554432 := by
  show (ly (ly (ly (ly (c + f * 4096 + q * 134217728) i.rd 7 5 0) i.r1 15 5 0) i.r2 20 5 0) i.od 25 2 0) = _
  have g0 : gv i.rd 5 0 < 32 := gv_lt i.rd 5 0
  have g1 : gv i.r1 5 0 < 32 := gv_lt i.r1 5 0
  have g2 : gv i.r2 5 0 < 32 := gv_lt i.r2 5 0
  have g3 : gv i.od 2 0 < 4 := gv_lt i.od 2 0
  rw [ly_add (s := (c + f * 4096 + q * 134217728)) i.rd 0 (by simp only [Nat.reducePow]; omega)]
  simp only [Nat.reducePow]
  rw [ly_add (s := ((c + f * 4096 + q * 134217728) + gv i.rd 5 0 * 128)) i.r1 0 (by simp only [Nat.reducePow]; omega)]
  simp only [Nat.reducePow]
  rw [ly_add (s := (((c + f * 4096 + q * 134217728) + gv i.rd 5 0 * 128) + gv i.r1 5 0 * 32768)) i.r2 0 (by simp only [Nat.reducePow]; omega)]
  simp only [Nat.reducePow]
  rw [ly_add (s := ((((c + f * 4096 + q * 134217728) + gv i.rd 5 0 * 128) + gv i.r1 5 0 * 32768) + gv i.r2 5 0 * 1048576)) i.od 0 (by simp only [Nat.reducePow]; omega)]

theorem lay_sh6 (i : Ins) (c f g : Nat) (hc : c < 128) (hf : f < 8) (hg : g < 64) : layF i (c + f * 4096 + g * 67108864) (.sh 6) = c + f * 4096 + g * 67108864 + gv i.rd 5 0 * 128 + gv i.r1 5 0 * 32768 + gv i.im 6 0 * 1048576 := by
  show (ly (ly (ly (c + f * 4096 + g * 67108864) i.rd 7 5 0) i.r1 15 5 0) i.im 20 6 0) = _
  have g0 : gv i.rd 5 0 < 32 := gv_lt i.rd 5 0
  have g1 : gv i.r1 5 0 < 32 := gv_lt i.r1 5 0
  have g2 : gv i.im 6 0 < 64 := gv_lt i.im 6 0
  rw [ly_add (s := (c + f * 4096 + g * 67108864)) i.rd 0 (by simp only [Nat.reducePow]; omega)]
  simp only [Nat.reducePow]
  rw [ly_add (s := ((c + f * 4096 + g * 67108864) + gv i.rd 5 0 * 128)) i.r1 0 (by simp only [Nat.reducePow]; omega)]
  simp only [Nat.reducePow]
  rw [ly_add (s := (((c + f * 4096 + g * 67108864) + gv i.rd 5 0 * 128) + gv i.r1 5 0 * 32768)) i.im 0 (by simp only [Nat.reducePow]; omega)]

theorem lay_sh5 (i : Ins) (c f g : Nat) (hc : c < 128) (hf : f < 8) (hg : g < 128) : layF i (c + f * 4096 + g * 33554432) (.sh 5) = c + f * 4096 + g * 33554432 + gv i.rd 5 0 * 128 + gv i.r1 5 0 * 32768 + gv i.im 5 0 * 1048576 := by
  show (ly (ly (ly (c + f * 4096 + g * 33554432) i.rd 7 5 0) i.r1 15 5 0) i.im 20 5 0) = _
  have g0 : gv i.rd 5 0 < 32 := gv_lt i.rd 5 0
  have g1 : gv i.r1 5 0 < 32 := gv_lt i.r1 5 0
  have g2 : gv i.im 5 0 < 32 := gv_lt i.im 5 0
  rw [ly_add (s := (c + f * 4096 + g * 33554432)) i.rd 0 (by simp only [Nat.reducePow]; omega)]
  simp only [Nat.reducePow]
  rw [ly_add (s := ((c + f * 4096 + g * 33554432) + gv i.rd 5 0 * 128)) i.r1 0 (by simp only [Nat.reducePow]; omega)]
  simp only [Nat.reducePow]
  rw [ly_add (s := (((c + f * 4096 + g * 33554432) + gv i.rd 5 0 * 128) + gv i.r1 5 0 * 32768)) i.im 0 (by simp only [Nat.reducePow]; omega)]

/-! ### What is laid of a decoded immediate -/
theorem gvI (p : Nat) (h : p < 4096) : gv (low (p : Int) 12) 12 0 = p := by
  unfold gv; rw [low12']; simp only [Int.reducePow]; omega
theorem gvU (p : Nat) (h : p < 1048576) : gv (low (p : Int) 20 * 4096) 20 12 = p := by
  unfold gv; rw [low20']; simp only [Int.reducePow]; omega
theorem gvJ (a b c d : Nat) (ha : a < 2) (hb : b < 256) (hc : c < 2) (hd : d < 1024) :
    gv (low (((a * 256 + b) * 2 + c) * 1024 + d : Int) 20 * 2) 1 20 = a ∧ gv (low (((a * 256 + b) * 2 + c) * 1024 + d : Int) 20 * 2) 8 12 = b ∧
    gv (low (((a * 256 + b) * 2 + c) * 1024 + d : Int) 20 * 2) 1 11 = c ∧ gv (low (((a * 256 + b) * 2 + c) * 1024 + d : Int) 20 * 2) 10 1 = d := by
  unfold gv; rw [low20']; simp only [Int.reducePow]; refine ⟨?_, ?_, ?_, ?_⟩ <;> omega
theorem gvB (a b c d : Nat) (ha : a < 2) (hb : b < 2) (hc : c < 64) (hd : d < 16) :
    gv (low (((a * 2 + b) * 64 + c) * 16 + d : Int) 12 * 2) 1 12 = a ∧ gv (low (((a * 2 + b) * 64 + c) * 16 + d : Int) 12 * 2) 1 11 = b ∧
    gv (low (((a * 2 + b) * 64 + c) * 16 + d : Int) 12 * 2) 6 5 = c ∧ gv (low (((a * 2 + b) * 64 + c) * 16 + d : Int) 12 * 2) 4 1 = d := by
  unfold gv; rw [low12']; simp only [Int.reducePow]; refine ⟨?_, ?_, ?_, ?_⟩ <;> omega
theorem gvS (a b : Nat) (ha : a < 128) (hb : b < 32) : gv (low ((a * 32 + b : Int)) 12) 7 5 = a ∧ gv (low ((a * 32 + b : Int)) 12) 5 0 = b := by
  unfold gv; rw [low12']; simp only [Int.reducePow]; refine ⟨?_, ?_⟩ <;> omega
theorem gv5 (s a : Nat) : gv (tk s a 5 0) 5 0 = pc s a 5 := by rw [tk_zero]; exact gv_nat (pc_lt s a 5)
theorem gv2 (s a : Nat) : gv (tk s a 2 0) 2 0 = pc s a 2 := by rw [tk_zero]; exact gv_nat (pc_lt s a 2)
theorem back_up (o : Int) (s : Nat) (hs : s < 4294967296) : layF (parts o s .up) (pc s 0 7) .up = s := by
  have hw := word_parts s hs
  rw [lay_up _ _ (pc_lt s 0 7)]
  show pc s 0 7 + gv (tk s 7 5 0) 5 0 * 128 + gv (low (tk s 12 20 12) 32) 20 12 * 4096 = s
  rw [gv5, imU, gvU _ (pc_lt s 12 20), pc_12_20]
  omega
theorem back_jp (o : Int) (s : Nat) (hs : s < 4294967296) : layF (parts o s .jp) (pc s 0 7) .jp = s := by
  have hw := word_parts s hs
  obtain ⟨j1, j2, j3, j4⟩ := gvJ (pc s 31 1) (pc s 12 8) (pc s 20 1) (pc s 21 10) (pc_lt s 31 1) (pc_lt s 12 8) (pc_lt s 20 1) (pc_lt s 21 10)
  have r1 := pc_20_12 s
  have r2 := pc_jump s
  rw [lay_jp _ _ (pc_lt s 0 7)]
  show pc s 0 7 + gv (tk s 7 5 0) 5 0 * 128 + gv (low _ 21) 1 20 * 2147483648 + gv (low _ 21) 8 12 * 4096 + gv (low _ 21) 1 11 * 1048576 + gv (low _ 21) 10 1 * 2097152 = s
  rw [gv5, imJ, j1, j2, j3, j4, pc_12_8]
  omega
theorem back_im (o : Int) (s : Nat) (hs : s < 4294967296) : layF (parts o s .im) (pc s 0 7 + pc s 12 3 * 4096) .im = s := by
  have hw := word_parts s hs
  rw [lay_im _ _ _ (pc_lt s 0 7) (pc_lt s 12 3)]
  show pc s 0 7 + pc s 12 3 * 4096 + gv (tk s 7 5 0) 5 0 * 128 + gv (tk s 15 5 0) 5 0 * 32768 + gv (low (tk s 20 12 0) 12) 12 0 * 1048576 = s
  rw [gv5, gv5, tk_zero, gvI _ (pc_lt s 20 12), pc_20_12]
  omega
theorem back_br (o : Int) (s : Nat) (hs : s < 4294967296) : layF (parts o s .br) (pc s 0 7 + pc s 12 3 * 4096) .br = s := by
  have hw := word_parts s hs
  obtain ⟨j1, j2, j3, j4⟩ := gvB (pc s 31 1) (pc s 7 1) (pc s 25 6) (pc s 8 4) (pc_lt s 31 1) (pc_lt s 7 1) (pc_lt s 25 6) (pc_lt s 8 4)
  have r1 := pc_7_5 s
  have r2 := pc_25_7 s
  rw [lay_br _ _ _ (pc_lt s 0 7) (pc_lt s 12 3)]
  show pc s 0 7 + pc s 12 3 * 4096 + gv (tk s 15 5 0) 5 0 * 32768 + gv (tk s 20 5 0) 5 0 * 1048576 + gv (low _ 13) 1 12 * 2147483648 + gv (low _ 13) 1 11 * 128 + gv (low _ 13) 6 5 * 33554432 + gv (low _ 13) 4 1 * 256 = s
  rw [gv5, gv5, imB, j1, j2, j3, j4]
  omega
theorem back_st (o : Int) (s : Nat) (hs : s < 4294967296) : layF (parts o s .st) (pc s 0 7 + pc s 12 3 * 4096) .st = s := by
  have hw := word_parts s hs
  obtain ⟨j1, j2⟩ := gvS (pc s 25 7) (pc s 7 5) (pc_lt s 25 7) (pc_lt s 7 5)
  rw [lay_st _ _ _ (pc_lt s 0 7) (pc_lt s 12 3)]
  show pc s 0 7 + pc s 12 3 * 4096 + gv (tk s 15 5 0) 5 0 * 32768 + gv (tk s 20 5 0) 5 0 * 1048576 + gv (low _ 12) 7 5 * 33554432 + gv (low _ 12) 5 0 * 128 = s
  rw [gv5, gv5, imS, j1, j2]
  omega
theorem back_rg (o : Int) (s : Nat) (hs : s < 4294967296) : layF (parts o s .rg) (pc s 0 7 + pc s 12 3 * 4096 + pc s 25 7 * 33554432) .rg = s := by
  have hw := word_parts s hs
  rw [lay_rg _ _ _ _ (pc_lt s 0 7) (pc_lt s 12 3) (pc_lt s 25 7)]
  show pc s 0 7 + pc s 12 3 * 4096 + pc s 25 7 * 33554432 + gv (tk s 7 5 0) 5 0 * 128 + gv (tk s 15 5 0) 5 0 * 32768 + gv (tk s 20 5 0) 5 0 * 1048576 = s
  rw [gv5, gv5, gv5]
  omega
theorem back_am (o : Int) (s : Nat) (hs : s < 4294967296) : layF (parts o s .am) (pc s 0 7 + pc s 12 3 * 4096 + pc s 27 5 * 134217728) .am = s := by
  have hw := word_parts s hs
  have r2 := pc_25_7' s
  rw [lay_am _ _ _ _ (pc_lt s 0 7) (pc_lt s 12 3) (pc_lt s 27 5)]
  show pc s 0 7 + pc s 12 3 * 4096 + pc s 27 5 * 134217728 + gv (tk s 7 5 0) 5 0 * 128 + gv (tk s 15 5 0) 5 0 * 32768 + gv (tk s 20 5 0) 5 0 * 1048576 + gv (tk s 25 2 0) 2 0 * 33554432 = s
  rw [gv5, gv5, gv5, gv2]
  omega
theorem back_sh6 (o : Int) (s : Nat) (hs : s < 4294967296) : layF (parts o s (.sh 6)) (pc s 0 7 + pc s 12 3 * 4096 + pc s 26 6 * 67108864) (.sh 6) = s := by
  have hw := word_parts s hs
  have r1 := pc_20_12 s
  have r2 := pc_20_12' s
  rw [lay_sh6 _ _ _ _ (pc_lt s 0 7) (pc_lt s 12 3) (pc_lt s 26 6)]
  show pc s 0 7 + pc s 12 3 * 4096 + pc s 26 6 * 67108864 + gv (tk s 7 5 0) 5 0 * 128 + gv (tk s 15 5 0) 5 0 * 32768 + gv (tk s 20 6 0) 6 0 * 1048576 = s
  rw [gv5, gv5, tk_zero, gv_nat (pc_lt s 20 6)]
  omega
theorem back_sh5 (o : Int) (s : Nat) (hs : s < 4294967296) : layF (parts o s (.sh 5)) (pc s 0 7 + pc s 12 3 * 4096 + pc s 25 7 * 33554432) (.sh 5) = s := by
  have hw := word_parts s hs
  rw [lay_sh5 _ _ _ _ (pc_lt s 0 7) (pc_lt s 12 3) (pc_lt s 25 7)]
  show pc s 0 7 + pc s 12 3 * 4096 + pc s 25 7 * 33554432 + gv (tk s 7 5 0) 5 0 * 128 + gv (tk s 15 5 0) 5 0 * 32768 + gv (tk s 20 5 0) 5 0 * 1048576 = s
  rw [gv5, gv5, gv5]
  omega
end Go.Proofs.YtionnhjldcpmjaaGreatDoor
