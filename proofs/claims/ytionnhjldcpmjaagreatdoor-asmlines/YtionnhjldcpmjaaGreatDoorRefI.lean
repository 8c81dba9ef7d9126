/-
  The reference's Decode, a code each.
-/
import Derived.Test.YtionnhjldcpmjaaGreatDoorRefC
set_option linter.unusedVariables false
set_option linter.unusedSimpArgs false
namespace Go.Proofs.YtionnhjldcpmjaaGreatDoor
set_option maxRecDepth 100000
open Go.RowKit
theorem one_newB (zs : List Int) (k : Nat) (w0 w1 : World) (B : Nat) (hB : w0.heap.size = B) (hw : w1 = w0.alloc (.cells (zs.map (Value.int .i64)).toArray 3)) (hl : zs.length ≤ 100) :
    Calls Tryz.prog 32 #[.slice (some ⟨B, 0, none⟩) zs.length zs.length, .int .i64 k] w1 fun e w' => e = .returned (.int .i64 (zs.getD k 0)) ∧ w1 = w' := by
  subst hB; exact one_new zs k w0 w1 hw hl
end Go.Proofs.YtionnhjldcpmjaaGreatDoor
