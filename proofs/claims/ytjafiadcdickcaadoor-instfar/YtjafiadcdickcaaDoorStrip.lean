/-
  A region's list of operations, without the edges of its order: what is shown of it holds. No program in sight.
-/
import Derived.Orders
import Derived.Tactics
set_option linter.unusedVariables false
namespace Go.Proofs.YtjafiadcdickcaaDoor
open Go
/-- An operation without the edges of its order. -/
def stripO (o : Oper) : Oper := { dst := o.dst, op := o.op, type := o.type, pos := o.pos, after := #[], guard := o.guard }
theorem yielded_strip (ops : Array Oper) (tmps : Array Value) : yielded (ops.map stripO) tmps = yielded ops tmps := by
  funext j
  unfold yielded
  rw [Array.getElem?_map]
  cases ops[j]? <;> rfl
theorem wpList_strip {P : Program} {ops : Array Oper} {Q : Exit → Act → World → Prop} : ∀ (rest : List Oper) (a : Act) (w : World), wpList P (ops.map stripO) Q (rest.map stripO) a w → wpList P ops Q rest a w
  | [], a, w, h => h
  | o :: rest, a, w, h => by
    have ih := wpList_strip (P := P) (ops := ops) (Q := Q) rest
    unfold wpList
    rw [List.map_cons] at h
    unfold wpList at h
    rw [yielded_strip] at h
    have e : Region.wanted (stripO o) (yielded ops a.tmps) = Region.wanted o (yielded ops a.tmps) := rfl
    rw [e] at h
    split at h
    · rename_i hw
      rw [if_pos hw]
      rcases h with h | h
      · exact .inl (Oper.wp_mono (K := wpList P (ops.map stripO) Q (rest.map stripO)) ih (by exact h))
      · exact .inr (by exact h)
    · rename_i hw
      rw [if_neg hw]
      exact ih _ _ h
end Go.Proofs.YtjafiadcdickcaaDoor
