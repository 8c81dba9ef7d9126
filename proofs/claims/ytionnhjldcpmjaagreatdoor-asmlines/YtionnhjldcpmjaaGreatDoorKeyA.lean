/-
  Contracts of the functions that seek an operator's word.
-/
import Derived.Test.YtionnhjldcpmjaaGreatDoorDecodeB
set_option linter.unusedVariables false
set_option linter.unusedSimpArgs false
namespace Go.Proofs.YtionnhjldcpmjaaGreatDoor
set_option maxRecDepth 100000
open Go.RowKit
def keyK : List Nat := [103, 99, 3, 35, 19, 19, 1073741843, 51, 1073741875, 33554483, 27, 27, 1073741851, 59, 1073741883, 33554491]
def keyT : List (List Int) := [[4, 0, 0, 0, 0, 0, 0, 0], [5, 6, 0, 0, 7, 8, 9, 10], [11, 12, 13, 14, 15, 16, 17, 0], [18, 19, 20, 21, 0, 0, 0, 0], [22, 0, 23, 24, 25, 0, 26, 27], [0, 28, 0, 0, 0, 29, 0, 0], [0, 0, 0, 0, 0, 30, 0, 0], [31, 33, 34, 35, 36, 37, 39, 40], [32, 0, 0, 0, 0, 38, 0, 0], [50, 51, 52, 53, 54, 55, 56, 57], [41, 0, 0, 0, 0, 0, 0, 0], [0, 42, 0, 0, 0, 43, 0, 0], [0, 0, 0, 0, 0, 44, 0, 0], [45, 47, 0, 0, 0, 48, 0, 0], [46, 0, 0, 0, 0, 49, 0, 0], [58, 0, 0, 0, 59, 60, 61, 62]]
def eT (i j : Nat) : Int := (keyT.getD i []).getD j 0
def kT (i : Nat) : Nat := keyK.getD i 0
/-- Row i, as the code lays it. -/
abbrev rowV (i : Nat) : Array Value := #[.int .u32 (kT i : Nat), .int .i64 (eT i 0), .int .i64 (eT i 1), .int .i64 (eT i 2), .int .i64 (eT i 3), .int .i64 (eT i 4), .int .i64 (eT i 5), .int .i64 (eT i 6), .int .i64 (eT i 7)]
def IdxOk (V : Value) : Prop := ∀ i : Nat, i < 16 → ∀ w : World, (Instr.index 125 V (.int .i64 i)).run Tryz.prog w = .ok (.agg (rowV i)) w
theorem index_run64 (i : Nat) (hi : i < 16) (f : Nat) (hf : f < 8) (w : World) : (Instr.index 99 (.agg (A8 (eT i 0) (eT i 1) (eT i 2) (eT i 3) (eT i 4) (eT i 5) (eT i 6) (eT i 7))) (.int .i64 f)).run Tryz.prog w = .ok (.int .i64 (eT i f)) w := by
  have h : f = 0 ∨ f = 1 ∨ f = 2 ∨ f = 3 ∨ f = 4 ∨ f = 5 ∨ f = 6 ∨ f = 7 := by omega
  rcases h with rfl | rfl | rfl | rfl | rfl | rfl | rfl | rfl <;> rfl
/-- The word of place j in row i. -/
def wT (i j : Nat) : Nat := kT i ||| (j * 4096)
theorem wT_or : ∀ i : Nat, i < 16 → ∀ j : Nat, j < 8 → bits .or .u32 (kT i : Nat) ((j : Int) * 4096) = (wT i j : Nat) := fun i hi j hj => by
  rw [show (j : Int) * 4096 = ((j * 4096 : Nat) : Int) by simp]
  have h : ∀ i : Nat, i < 16 → kT i < 4294967296 := by decide
  exact u32_or_nat _ _ (h i hi) (by omega)
/-- Behind so many places that are not it. -/
def none8 (op : Int) (i j : Nat) : Prop := (∀ a b : Nat, a < i → b < 8 → eT a b ≠ op) ∧ ∀ b : Nat, b < j → eT i b ≠ op
/-- What the search answers. -/
def KeyIs (op : Int) (k : Nat) : Prop := (∃ i j : Nat, i < 16 ∧ j < 8 ∧ eT i j = op ∧ none8 op i j ∧ k = wT i j) ∨ ((∀ a b : Nat, a < 16 → b < 8 → eT a b ≠ op) ∧ k = 0)
def bigV : Value := .agg #[.int .u32 103, .int .i64 4, .int .i64 0, .int .i64 0, .int .i64 0, .int .i64 0, .int .i64 0, .int .i64 0, .int .i64 0, .int .u32 99, .int .i64 5, .int .i64 6, .int .i64 0, .int .i64 0, .int .i64 7, .int .i64 8, .int .i64 9, .int .i64 10, .int .u32 3, .int .i64 11, .int .i64 12, .int .i64 13, .int .i64 14, .int .i64 15, .int .i64 16, .int .i64 17, .int .i64 0, .int .u32 35, .int .i64 18, .int .i64 19, .int .i64 20, .int .i64 21, .int .i64 0, .int .i64 0, .int .i64 0, .int .i64 0, .int .u32 19, .int .i64 22, .int .i64 0, .int .i64 23, .int .i64 24, .int .i64 25, .int .i64 0, .int .i64 26, .int .i64 27, .int .u32 19, .int .i64 0, .int .i64 28, .int .i64 0, .int .i64 0, .int .i64 0, .int .i64 29, .int .i64 0, .int .i64 0, .int .u32 1073741843, .int .i64 0, .int .i64 0, .int .i64 0, .int .i64 0, .int .i64 0, .int .i64 30, .int .i64 0, .int .i64 0, .int .u32 51, .int .i64 31, .int .i64 33, .int .i64 34, .int .i64 35, .int .i64 36, .int .i64 37, .int .i64 39, .int .i64 40, .int .u32 1073741875, .int .i64 32, .int .i64 0, .int .i64 0, .int .i64 0, .int .i64 0, .int .i64 38, .int .i64 0, .int .i64 0, .int .u32 33554483, .int .i64 50, .int .i64 51, .int .i64 52, .int .i64 53, .int .i64 54, .int .i64 55, .int .i64 56, .int .i64 57, .int .u32 27, .int .i64 41, .int .i64 0, .int .i64 0, .int .i64 0, .int .i64 0, .int .i64 0, .int .i64 0, .int .i64 0, .int .u32 27, .int .i64 0, .int .i64 42, .int .i64 0, .int .i64 0, .int .i64 0, .int .i64 43, .int .i64 0, .int .i64 0, .int .u32 1073741851, .int .i64 0, .int .i64 0, .int .i64 0, .int .i64 0, .int .i64 0, .int .i64 44, .int .i64 0, .int .i64 0, .int .u32 59, .int .i64 45, .int .i64 47, .int .i64 0, .int .i64 0, .int .i64 0, .int .i64 48, .int .i64 0, .int .i64 0, .int .u32 1073741883, .int .i64 46, .int .i64 0, .int .i64 0, .int .i64 0, .int .i64 0, .int .i64 49, .int .i64 0, .int .i64 0, .int .u32 33554491, .int .i64 58, .int .i64 0, .int .i64 0, .int .i64 0, .int .i64 59, .int .i64 60, .int .i64 61, .int .i64 62]
set_option maxRecDepth 100000 in
theorem bigV_ok : IdxOk bigV := by
  intro i hi w
  show (Instr.index 125 bigV (.int .i64 (i : Nat))).run Tryz.prog w = .ok (.agg (rowV i)) w
  have h : i = 0 ∨ i = 1 ∨ i = 2 ∨ i = 3 ∨ i = 4 ∨ i = 5 ∨ i = 6 ∨ i = 7 ∨ i = 8 ∨ i = 9 ∨ i = 10 ∨ i = 11 ∨ i = 12 ∨ i = 13 ∨ i = 14 ∨ i = 15 := by omega
  rcases h with rfl | rfl | rfl | rfl | rfl | rfl | rfl | rfl | rfl | rfl | rfl | rfl | rfl | rfl | rfl | rfl <;> first | rfl | kernel_rfl
set_option maxHeartbeats 4000000 in
set_option maxRecDepth 100000 in
theorem keyByF3_any (op : Int) (w : World) (hT : Tabs w) :
    Calls Tryz.prog 53 #[.int .i64 op] w fun e w' => ∃ k : Nat, e = .returned (.int .u32 k) ∧ KeyIs op k ∧ Kp none w w' := by
  have c0_0 : w.cell? ⟨2, 0, none⟩ = some (.int .i64 4) := hT.t0 0 (by decide)
  have c0_1 : w.cell? ⟨2, 1, none⟩ = some (.int .i64 0) := hT.t0 1 (by decide)
  have c0_2 : w.cell? ⟨2, 2, none⟩ = some (.int .i64 0) := hT.t0 2 (by decide)
  have c0_3 : w.cell? ⟨2, 3, none⟩ = some (.int .i64 0) := hT.t0 3 (by decide)
  have c0_4 : w.cell? ⟨2, 4, none⟩ = some (.int .i64 0) := hT.t0 4 (by decide)
  have c0_5 : w.cell? ⟨2, 5, none⟩ = some (.int .i64 0) := hT.t0 5 (by decide)
  have c0_6 : w.cell? ⟨2, 6, none⟩ = some (.int .i64 0) := hT.t0 6 (by decide)
  have c0_7 : w.cell? ⟨2, 7, none⟩ = some (.int .i64 0) := hT.t0 7 (by decide)
  have c1_0 : w.cell? ⟨3, 0, none⟩ = some (.int .i64 5) := hT.t1 0 (by decide)
  have c1_1 : w.cell? ⟨3, 1, none⟩ = some (.int .i64 6) := hT.t1 1 (by decide)
  have c1_2 : w.cell? ⟨3, 2, none⟩ = some (.int .i64 0) := hT.t1 2 (by decide)
  have c1_3 : w.cell? ⟨3, 3, none⟩ = some (.int .i64 0) := hT.t1 3 (by decide)
  have c1_4 : w.cell? ⟨3, 4, none⟩ = some (.int .i64 7) := hT.t1 4 (by decide)
  have c1_5 : w.cell? ⟨3, 5, none⟩ = some (.int .i64 8) := hT.t1 5 (by decide)
  have c1_6 : w.cell? ⟨3, 6, none⟩ = some (.int .i64 9) := hT.t1 6 (by decide)
  have c1_7 : w.cell? ⟨3, 7, none⟩ = some (.int .i64 10) := hT.t1 7 (by decide)
  have c2_0 : w.cell? ⟨4, 0, none⟩ = some (.int .i64 11) := hT.t2 0 (by decide)
  have c2_1 : w.cell? ⟨4, 1, none⟩ = some (.int .i64 12) := hT.t2 1 (by decide)
  have c2_2 : w.cell? ⟨4, 2, none⟩ = some (.int .i64 13) := hT.t2 2 (by decide)
  have c2_3 : w.cell? ⟨4, 3, none⟩ = some (.int .i64 14) := hT.t2 3 (by decide)
  have c2_4 : w.cell? ⟨4, 4, none⟩ = some (.int .i64 15) := hT.t2 4 (by decide)
  have c2_5 : w.cell? ⟨4, 5, none⟩ = some (.int .i64 16) := hT.t2 5 (by decide)
  have c2_6 : w.cell? ⟨4, 6, none⟩ = some (.int .i64 17) := hT.t2 6 (by decide)
  have c2_7 : w.cell? ⟨4, 7, none⟩ = some (.int .i64 0) := hT.t2 7 (by decide)
  have c3_0 : w.cell? ⟨5, 0, none⟩ = some (.int .i64 18) := hT.t3 0 (by decide)
  have c3_1 : w.cell? ⟨5, 1, none⟩ = some (.int .i64 19) := hT.t3 1 (by decide)
  have c3_2 : w.cell? ⟨5, 2, none⟩ = some (.int .i64 20) := hT.t3 2 (by decide)
  have c3_3 : w.cell? ⟨5, 3, none⟩ = some (.int .i64 21) := hT.t3 3 (by decide)
  have c3_4 : w.cell? ⟨5, 4, none⟩ = some (.int .i64 0) := hT.t3 4 (by decide)
  have c3_5 : w.cell? ⟨5, 5, none⟩ = some (.int .i64 0) := hT.t3 5 (by decide)
  have c3_6 : w.cell? ⟨5, 6, none⟩ = some (.int .i64 0) := hT.t3 6 (by decide)
  have c3_7 : w.cell? ⟨5, 7, none⟩ = some (.int .i64 0) := hT.t3 7 (by decide)
  have c11_0 : w.cell? ⟨13, 0, none⟩ = some (.int .i64 22) := hT.t11 0 (by decide)
  have c11_1 : w.cell? ⟨13, 1, none⟩ = some (.int .i64 0) := hT.t11 1 (by decide)
  have c11_2 : w.cell? ⟨13, 2, none⟩ = some (.int .i64 23) := hT.t11 2 (by decide)
  have c11_3 : w.cell? ⟨13, 3, none⟩ = some (.int .i64 24) := hT.t11 3 (by decide)
  have c11_4 : w.cell? ⟨13, 4, none⟩ = some (.int .i64 25) := hT.t11 4 (by decide)
  have c11_5 : w.cell? ⟨13, 5, none⟩ = some (.int .i64 0) := hT.t11 5 (by decide)
  have c11_6 : w.cell? ⟨13, 6, none⟩ = some (.int .i64 26) := hT.t11 6 (by decide)
  have c11_7 : w.cell? ⟨13, 7, none⟩ = some (.int .i64 27) := hT.t11 7 (by decide)
  have c12_0 : w.cell? ⟨14, 0, none⟩ = some (.int .i64 0) := hT.t12 0 (by decide)
  have c12_1 : w.cell? ⟨14, 1, none⟩ = some (.int .i64 28) := hT.t12 1 (by decide)
  have c12_2 : w.cell? ⟨14, 2, none⟩ = some (.int .i64 0) := hT.t12 2 (by decide)
  have c12_3 : w.cell? ⟨14, 3, none⟩ = some (.int .i64 0) := hT.t12 3 (by decide)
  have c12_4 : w.cell? ⟨14, 4, none⟩ = some (.int .i64 0) := hT.t12 4 (by decide)
  have c12_5 : w.cell? ⟨14, 5, none⟩ = some (.int .i64 29) := hT.t12 5 (by decide)
  have c12_6 : w.cell? ⟨14, 6, none⟩ = some (.int .i64 0) := hT.t12 6 (by decide)
  have c12_7 : w.cell? ⟨14, 7, none⟩ = some (.int .i64 0) := hT.t12 7 (by decide)
  have c13_0 : w.cell? ⟨15, 0, none⟩ = some (.int .i64 0) := hT.t13 0 (by decide)
  have c13_1 : w.cell? ⟨15, 1, none⟩ = some (.int .i64 0) := hT.t13 1 (by decide)
  have c13_2 : w.cell? ⟨15, 2, none⟩ = some (.int .i64 0) := hT.t13 2 (by decide)
  have c13_3 : w.cell? ⟨15, 3, none⟩ = some (.int .i64 0) := hT.t13 3 (by decide)
  have c13_4 : w.cell? ⟨15, 4, none⟩ = some (.int .i64 0) := hT.t13 4 (by decide)
  have c13_5 : w.cell? ⟨15, 5, none⟩ = some (.int .i64 30) := hT.t13 5 (by decide)
  have c13_6 : w.cell? ⟨15, 6, none⟩ = some (.int .i64 0) := hT.t13 6 (by decide)
  have c13_7 : w.cell? ⟨15, 7, none⟩ = some (.int .i64 0) := hT.t13 7 (by decide)
  have c4_0 : w.cell? ⟨6, 0, none⟩ = some (.int .i64 31) := hT.t4 0 (by decide)
  have c4_1 : w.cell? ⟨6, 1, none⟩ = some (.int .i64 33) := hT.t4 1 (by decide)
  have c4_2 : w.cell? ⟨6, 2, none⟩ = some (.int .i64 34) := hT.t4 2 (by decide)
  have c4_3 : w.cell? ⟨6, 3, none⟩ = some (.int .i64 35) := hT.t4 3 (by decide)
  have c4_4 : w.cell? ⟨6, 4, none⟩ = some (.int .i64 36) := hT.t4 4 (by decide)
  have c4_5 : w.cell? ⟨6, 5, none⟩ = some (.int .i64 37) := hT.t4 5 (by decide)
  have c4_6 : w.cell? ⟨6, 6, none⟩ = some (.int .i64 39) := hT.t4 6 (by decide)
  have c4_7 : w.cell? ⟨6, 7, none⟩ = some (.int .i64 40) := hT.t4 7 (by decide)
  have c5_0 : w.cell? ⟨7, 0, none⟩ = some (.int .i64 32) := hT.t5 0 (by decide)
  have c5_1 : w.cell? ⟨7, 1, none⟩ = some (.int .i64 0) := hT.t5 1 (by decide)
  have c5_2 : w.cell? ⟨7, 2, none⟩ = some (.int .i64 0) := hT.t5 2 (by decide)
  have c5_3 : w.cell? ⟨7, 3, none⟩ = some (.int .i64 0) := hT.t5 3 (by decide)
  have c5_4 : w.cell? ⟨7, 4, none⟩ = some (.int .i64 0) := hT.t5 4 (by decide)
  have c5_5 : w.cell? ⟨7, 5, none⟩ = some (.int .i64 38) := hT.t5 5 (by decide)
  have c5_6 : w.cell? ⟨7, 6, none⟩ = some (.int .i64 0) := hT.t5 6 (by decide)
  have c5_7 : w.cell? ⟨7, 7, none⟩ = some (.int .i64 0) := hT.t5 7 (by decide)
  have c6_0 : w.cell? ⟨8, 0, none⟩ = some (.int .i64 50) := hT.t6 0 (by decide)
  have c6_1 : w.cell? ⟨8, 1, none⟩ = some (.int .i64 51) := hT.t6 1 (by decide)
  have c6_2 : w.cell? ⟨8, 2, none⟩ = some (.int .i64 52) := hT.t6 2 (by decide)
  have c6_3 : w.cell? ⟨8, 3, none⟩ = some (.int .i64 53) := hT.t6 3 (by decide)
  have c6_4 : w.cell? ⟨8, 4, none⟩ = some (.int .i64 54) := hT.t6 4 (by decide)
  have c6_5 : w.cell? ⟨8, 5, none⟩ = some (.int .i64 55) := hT.t6 5 (by decide)
  have c6_6 : w.cell? ⟨8, 6, none⟩ = some (.int .i64 56) := hT.t6 6 (by decide)
  have c6_7 : w.cell? ⟨8, 7, none⟩ = some (.int .i64 57) := hT.t6 7 (by decide)
  have c14_0 : w.cell? ⟨16, 0, none⟩ = some (.int .i64 41) := hT.t14 0 (by decide)
  have c14_1 : w.cell? ⟨16, 1, none⟩ = some (.int .i64 0) := hT.t14 1 (by decide)
  have c14_2 : w.cell? ⟨16, 2, none⟩ = some (.int .i64 0) := hT.t14 2 (by decide)
  have c14_3 : w.cell? ⟨16, 3, none⟩ = some (.int .i64 0) := hT.t14 3 (by decide)
  have c14_4 : w.cell? ⟨16, 4, none⟩ = some (.int .i64 0) := hT.t14 4 (by decide)
  have c14_5 : w.cell? ⟨16, 5, none⟩ = some (.int .i64 0) := hT.t14 5 (by decide)
  have c14_6 : w.cell? ⟨16, 6, none⟩ = some (.int .i64 0) := hT.t14 6 (by decide)
  have c14_7 : w.cell? ⟨16, 7, none⟩ = some (.int .i64 0) := hT.t14 7 (by decide)
  have c15_0 : w.cell? ⟨17, 0, none⟩ = some (.int .i64 0) := hT.t15 0 (by decide)
  have c15_1 : w.cell? ⟨17, 1, none⟩ = some (.int .i64 42) := hT.t15 1 (by decide)
  have c15_2 : w.cell? ⟨17, 2, none⟩ = some (.int .i64 0) := hT.t15 2 (by decide)
  have c15_3 : w.cell? ⟨17, 3, none⟩ = some (.int .i64 0) := hT.t15 3 (by decide)
  have c15_4 : w.cell? ⟨17, 4, none⟩ = some (.int .i64 0) := hT.t15 4 (by decide)
  have c15_5 : w.cell? ⟨17, 5, none⟩ = some (.int .i64 43) := hT.t15 5 (by decide)
  have c15_6 : w.cell? ⟨17, 6, none⟩ = some (.int .i64 0) := hT.t15 6 (by decide)
  have c15_7 : w.cell? ⟨17, 7, none⟩ = some (.int .i64 0) := hT.t15 7 (by decide)
  have c16_0 : w.cell? ⟨18, 0, none⟩ = some (.int .i64 0) := hT.t16 0 (by decide)
  have c16_1 : w.cell? ⟨18, 1, none⟩ = some (.int .i64 0) := hT.t16 1 (by decide)
  have c16_2 : w.cell? ⟨18, 2, none⟩ = some (.int .i64 0) := hT.t16 2 (by decide)
  have c16_3 : w.cell? ⟨18, 3, none⟩ = some (.int .i64 0) := hT.t16 3 (by decide)
  have c16_4 : w.cell? ⟨18, 4, none⟩ = some (.int .i64 0) := hT.t16 4 (by decide)
  have c16_5 : w.cell? ⟨18, 5, none⟩ = some (.int .i64 44) := hT.t16 5 (by decide)
  have c16_6 : w.cell? ⟨18, 6, none⟩ = some (.int .i64 0) := hT.t16 6 (by decide)
  have c16_7 : w.cell? ⟨18, 7, none⟩ = some (.int .i64 0) := hT.t16 7 (by decide)
  have c7_0 : w.cell? ⟨9, 0, none⟩ = some (.int .i64 45) := hT.t7 0 (by decide)
  have c7_1 : w.cell? ⟨9, 1, none⟩ = some (.int .i64 47) := hT.t7 1 (by decide)
  have c7_2 : w.cell? ⟨9, 2, none⟩ = some (.int .i64 0) := hT.t7 2 (by decide)
  have c7_3 : w.cell? ⟨9, 3, none⟩ = some (.int .i64 0) := hT.t7 3 (by decide)
  have c7_4 : w.cell? ⟨9, 4, none⟩ = some (.int .i64 0) := hT.t7 4 (by decide)
  have c7_5 : w.cell? ⟨9, 5, none⟩ = some (.int .i64 48) := hT.t7 5 (by decide)
  have c7_6 : w.cell? ⟨9, 6, none⟩ = some (.int .i64 0) := hT.t7 6 (by decide)
  have c7_7 : w.cell? ⟨9, 7, none⟩ = some (.int .i64 0) := hT.t7 7 (by decide)
  have c8_0 : w.cell? ⟨10, 0, none⟩ = some (.int .i64 46) := hT.t8 0 (by decide)
  have c8_1 : w.cell? ⟨10, 1, none⟩ = some (.int .i64 0) := hT.t8 1 (by decide)
  have c8_2 : w.cell? ⟨10, 2, none⟩ = some (.int .i64 0) := hT.t8 2 (by decide)
  have c8_3 : w.cell? ⟨10, 3, none⟩ = some (.int .i64 0) := hT.t8 3 (by decide)
  have c8_4 : w.cell? ⟨10, 4, none⟩ = some (.int .i64 0) := hT.t8 4 (by decide)
  have c8_5 : w.cell? ⟨10, 5, none⟩ = some (.int .i64 49) := hT.t8 5 (by decide)
  have c8_6 : w.cell? ⟨10, 6, none⟩ = some (.int .i64 0) := hT.t8 6 (by decide)
  have c8_7 : w.cell? ⟨10, 7, none⟩ = some (.int .i64 0) := hT.t8 7 (by decide)
  have c9_0 : w.cell? ⟨11, 0, none⟩ = some (.int .i64 58) := hT.t9 0 (by decide)
  have c9_1 : w.cell? ⟨11, 1, none⟩ = some (.int .i64 0) := hT.t9 1 (by decide)
  have c9_2 : w.cell? ⟨11, 2, none⟩ = some (.int .i64 0) := hT.t9 2 (by decide)
  have c9_3 : w.cell? ⟨11, 3, none⟩ = some (.int .i64 0) := hT.t9 3 (by decide)
  have c9_4 : w.cell? ⟨11, 4, none⟩ = some (.int .i64 59) := hT.t9 4 (by decide)
  have c9_5 : w.cell? ⟨11, 5, none⟩ = some (.int .i64 60) := hT.t9 5 (by decide)
  have c9_6 : w.cell? ⟨11, 6, none⟩ = some (.int .i64 61) := hT.t9 6 (by decide)
  have c9_7 : w.cell? ⟨11, 7, none⟩ = some (.int .i64 62) := hT.t9 7 (by decide)
  clear hT
  go_enter Tryz.func53, Tryz.ntmps53
  go_wp2_with fail
  clear c0_0 c0_1 c0_2 c0_3 c0_4 c0_5 c0_6 c0_7 c1_0 c1_1 c1_2 c1_3 c1_4 c1_5 c1_6 c1_7 c2_0 c2_1 c2_2 c2_3 c2_4 c2_5 c2_6 c2_7 c3_0 c3_1 c3_2 c3_3 c3_4 c3_5 c3_6 c3_7 c11_0 c11_1 c11_2 c11_3 c11_4 c11_5 c11_6 c11_7 c12_0 c12_1 c12_2 c12_3 c12_4 c12_5 c12_6 c12_7 c13_0 c13_1 c13_2 c13_3 c13_4 c13_5 c13_6 c13_7 c4_0 c4_1 c4_2 c4_3 c4_4 c4_5 c4_6 c4_7 c5_0 c5_1 c5_2 c5_3 c5_4 c5_5 c5_6 c5_7 c6_0 c6_1 c6_2 c6_3 c6_4 c6_5 c6_6 c6_7 c14_0 c14_1 c14_2 c14_3 c14_4 c14_5 c14_6 c14_7 c15_0 c15_1 c15_2 c15_3 c15_4 c15_5 c15_6 c15_7 c16_0 c16_1 c16_2 c16_3 c16_4 c16_5 c16_6 c16_7 c7_0 c7_1 c7_2 c7_3 c7_4 c7_5 c7_6 c7_7 c8_0 c8_1 c8_2 c8_3 c8_4 c8_5 c8_6 c8_7 c9_0 c9_1 c9_2 c9_3 c9_4 c9_5 c9_6 c9_7
  have hB := bigV_ok
  generalize hV : Value.agg (Array.setIfInBounds _ 143 _) = V
  have hV2 : IdxOk V := by rw [← hV]; exact hB
  clear hV hB
  have HV := Lib.hid hV2; clear hV2
  go_loopw [40] (fun i wr => ∃ k : Nat, k ≤ 16 ∧ i = .int .i64 k ∧ Kp none w wr ∧ none8 op k 0) (fun i wr => 16 - (intOf i).toNat)
  case atStart => exact ⟨0, by omega, rfl, Kp.refl _ _, fun a b h => by omega, fun b h => by omega⟩
  case round =>
    obtain ⟨k, hk, rfl, hKp, hno⟩ := hrel
    have HN := Lib.hid hno; have HK := Lib.hid hKp; clear hno hKp
    by_cases hlt : k < 16
    · have hx := HV.out k hlt
      go_wp2_with fail
      have hN0 : none8 op k 0 := HN.out
      have hW := Lib.hid (wT_or k hlt)
      have hS := Has.new wr (rowV k) 124
      have hKp2 := HK.out.alloc (rowV k) 124
      have HK2 := Lib.hid hKp2; clear hKp2
      have HS := Lib.hid hS; clear hS
      have HX := Lib.hid (index_run64 k hlt)
      have H0 := Lib.hid hN0; clear hN0
      generalize hw2 : wr.alloc (.cells (rowV k) 124) = w2 at *
      clear hx hw2
      go_loop [45] (fun j => ∃ m : Nat, m ≤ 8 ∧ j = .int .i64 m ∧ none8 op k m) (fun j => 8 - (intOf j).toNat)
      case atStart => exact ⟨0, by omega, rfl, H0.out⟩
      case round =>
        obtain ⟨m, hm, rfl, hn⟩ := hrel
        have HM := Lib.hid hn; clear hn
        by_cases hl2 : m < 8
        · have hx := HX.out m hl2
          by_cases he : eT k m = op
          · have e1 : (eT k m == op) = true := by simp [he]
            have e0 : w2.cell? ⟨wr.heap.size, 0, none⟩ = some (.int .u32 (kT k : Nat)) := HS.out.cell 0
            have HE := Lib.hid he; clear he
            go_wp2
            go_ret
            exact ⟨wT k m, ret_int (hW.out m hl2), .inl ⟨k, m, hlt, hl2, HE.out, HM.out, rfl⟩, HK2.out⟩
          · have e1 : (eT k m == op) = false := by simp [he]
            have HE := Lib.hid he; clear he
            go_wp2
            go_round
            case rel => exact ⟨m + 1, by omega, by go_num, HM.out.1, fun b hb => by
              rcases Nat.lt_or_ge b m with h | h
              · exact HM.out.2 b h
              · obtain rfl : b = m := by omega
                exact HE.out⟩
            case measure => simp [intOf]; omega
        · obtain rfl : m = 8 := by omega
          go_wp2
          go_roundw
          case rel => exact ⟨k + 1, by omega, by go_num, HK2.out, fun a b ha hb => by
              rcases Nat.lt_or_ge a k with h | h
              · exact HM.out.1 a b h hb
              · obtain rfl : a = k := by omega
                exact HM.out.2 b hb, fun b h => by omega⟩
          case measure => simp [intOf]; omega
    · obtain rfl : k = 16 := by omega
      go_wp2
      go_ret
      exact ⟨0, rfl, .inr ⟨fun a b ha hb => HN.out.1 a b ha hb, rfl⟩, HK.out⟩
end Go.Proofs.YtionnhjldcpmjaaGreatDoor
