/-
  What an instruction's word is; the contract of Encode, a form each.
-/
import Derived.Test.YtionnhjldcpmjaaGreatDoorKeyB
set_option linter.unusedVariables false
set_option linter.unusedSimpArgs false
namespace Go.Proofs.YtionnhjldcpmjaaGreatDoor
set_option maxRecDepth 100000
open Go.RowKit

/-- The pieces of i laid into s. -/
def layF (i : Ins) (s : Nat) : Fm → Nat
  | .up => (ly (ly s i.rd 7 5 0) i.im 12 20 12)
  | .jp => (ly (ly (ly (ly (ly s i.rd 7 5 0) i.im 31 1 20) i.im 12 8 12) i.im 20 1 11) i.im 21 10 1)
  | .im => (ly (ly (ly s i.rd 7 5 0) i.r1 15 5 0) i.im 20 12 0)
  | .br => (ly (ly (ly (ly (ly (ly s i.r1 15 5 0) i.r2 20 5 0) i.im 31 1 12) i.im 7 1 11) i.im 25 6 5) i.im 8 4 1)
  | .st => (ly (ly (ly (ly s i.r1 15 5 0) i.r2 20 5 0) i.im 25 7 5) i.im 7 5 0)
  | .rg => (ly (ly (ly s i.rd 7 5 0) i.r1 15 5 0) i.r2 20 5 0)
  | .am => (ly (ly (ly (ly s i.rd 7 5 0) i.r1 15 5 0) i.r2 20 5 0) i.od 25 2 0)
  | .sh m => (ly (ly (ly s i.rd 7 5 0) i.r1 15 5 0) i.im 20 m 0)
  | .ba => s
  | .no => s
theorem nil_no (fn : Fn) (a b : Array Value) (w : World) : (Go.binOp .eql 80 (.func fn a b) .nilFunc).run Tryz.prog w = .ok (.bool false) w := rfl
theorem struct_neq (a0 a1 a2 a3 a4 a5 a6 b0 b1 b2 b3 b4 b5 b6 : Int) (w : World) : (Go.binOp .neq 28 (.agg (I7 a0 a1 a2 a3 a4 a5 a6)) (.agg (I7 b0 b1 b2 b3 b4 b5 b6))).run Tryz.prog w =
    .ok (.bool (decide (¬ (a0 = b0 ∧ a1 = b1 ∧ a2 = b2 ∧ a3 = b3 ∧ a4 = b4 ∧ a5 = b5 ∧ a6 = b6)))) w := by
  go_simp
  split <;> (try split) <;> (try split) <;> (try split) <;> (try split) <;> (try split) <;> (try split) <;> simp_all
theorem struct_eql (a0 a1 a2 a3 a4 a5 a6 b0 b1 b2 b3 b4 b5 b6 : Int) (w : World) : (Go.binOp .eql 28 (.agg (I7 a0 a1 a2 a3 a4 a5 a6)) (.agg (I7 b0 b1 b2 b3 b4 b5 b6))).run Tryz.prog w =
    .ok (.bool (decide (a0 = b0 ∧ a1 = b1 ∧ a2 = b2 ∧ a3 = b3 ∧ a4 = b4 ∧ a5 = b5 ∧ a6 = b6))) w := by
  go_simp
  split <;> (try split) <;> (try split) <;> (try split) <;> (try split) <;> (try split) <;> (try split) <;> simp_all
theorem neq_of {a0 a1 a2 a3 a4 a5 a6 b0 b1 b2 b3 b4 b5 b6 : Int} (h : (⟨a0, a1, a2, a3, a4, a5, a6⟩ : Ins) ≠ ⟨b0, b1, b2, b3, b4, b5, b6⟩) (w : World) :
    (Go.binOp .neq 28 (.agg (I7 a0 a1 a2 a3 a4 a5 a6)) (.agg (I7 b0 b1 b2 b3 b4 b5 b6))).run Tryz.prog w = .ok (.bool true) w := by
  rw [struct_neq]
  have : ¬ (a0 = b0 ∧ a1 = b1 ∧ a2 = b2 ∧ a3 = b3 ∧ a4 = b4 ∧ a5 = b5 ∧ a6 = b6) := by
    rintro ⟨rfl, rfl, rfl, rfl, rfl, rfl, rfl⟩
    exact h rfl
  rw [decide_eq_true this]
theorem nil_yes (w : World) : (Go.binOp .eql 80 .nilFunc .nilFunc).run Tryz.prog w = .ok (.bool true) w := rfl
end Go.Proofs.YtionnhjldcpmjaaGreatDoor
