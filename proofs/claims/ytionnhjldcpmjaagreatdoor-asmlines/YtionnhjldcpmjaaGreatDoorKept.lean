/-
  What a call leaves of the memory that was there: all of it, but perhaps one block. Blocks of a struct, of one cell.
-/
import Derived.Test.YtionnhjldcpmjaaGreatDoorRows
import Derived.Test.YtionnhjldcpmjaaGreatDoorMath
import Derived.WalkKit
import Derived.WalkSpells
import Derived.WalkLawsBesides
import Derived.Lib.Hide
import Derived.Deep.Draws
import Derived.Below
set_option linter.unusedVariables false
namespace Go.Proofs.YtionnhjldcpmjaaGreatDoor
open Go.RowKit

/-- All blocks that were there are as they were, but perhaps block o. -/
structure Kp (o : Option Nat) (w w' : World) : Prop where
  os : w'.os = w.os
  tape : w'.tape = w.tape
  output : w'.output = w.output
  size : w.heap.size ≤ w'.heap.size
  frozen : ∀ a, w'.frozen? a = w.frozen? a
  block : ∀ k, k < w.heap.size → some k ≠ o → w'.heap[k]? = w.heap[k]?

theorem Kp.refl (o : Option Nat) (w : World) : Kp o w w := ⟨rfl, rfl, rfl, Nat.le_refl _, fun _ => rfl, fun _ _ _ => rfl⟩
theorem Kp.trans {o : Option Nat} {a b c : World} (h : Kp o a b) (k : Kp o b c) : Kp o a c :=
  ⟨k.os.trans h.os, k.tape.trans h.tape, k.output.trans h.output, Nat.le_trans h.size k.size, fun x => (k.frozen x).trans (h.frozen x),
   fun i hi hn => (k.block i (Nat.lt_of_lt_of_le hi h.size) hn).trans (h.block i hi hn)⟩
theorem Kp.any {o : Option Nat} {a b : World} (h : Kp none a b) : Kp o a b := ⟨h.os, h.tape, h.output, h.size, h.frozen, fun k hk _ => h.block k hk (by simp)⟩
theorem Kp.drew {o : Option Nat} {a w : World} (h : Kp o a w) : Kp o a w.drew := ⟨h.os, h.tape, h.output, h.size, h.frozen, h.block⟩
theorem Kp.drewN {o : Option Nat} {a w : World} (h : Kp o a w) (n : Nat) : Kp o a (w.drewN n) := ⟨h.os, h.tape, h.output, h.size, h.frozen, h.block⟩
theorem Kp.alloc {o : Option Nat} {a w : World} (h : Kp o a w) (c : Array Value) (t : TypeId) : Kp o a (w.alloc (.cells c t)) :=
  h.trans ⟨rfl, rfl, rfl, by simp, fun x => frozen?_alloc_cells _ _ _ x, fun k hk _ => Below.heap_alloc _ _ _ hk⟩
/-- A store into a block that was not there, or into the one that may turn. -/
theorem Kp.setCell {o : Option Nat} {a w : World} (h : Kp o a w) {p : Addr} (hp : a.heap.size ≤ p.block ∨ some p.block = o) (u : Value) : Kp o a (w.setCell p u) :=
  ⟨h.os, h.tape, h.output, by simpa [World.setCell] using h.size, fun x => (World.frozen?_setCell _ _ _ _).trans (h.frozen x),
   fun k hk hn => (Below.heap_setCell _ _ _ _ (fun e => by subst e; rcases hp with hp | hp; · omega
                                                           · exact hn hp)).trans (h.block k hk hn)⟩
/-- What turned one block that was not there before has turned nothing. -/
theorem Kp.drop {o : Option Nat} {a b c : World} (h : Kp none a b) (k : Kp o b c) (ho : ∀ i, o = some i → a.heap.size ≤ i) : Kp none a c :=
  ⟨k.os.trans h.os, k.tape.trans h.tape, k.output.trans h.output, Nat.le_trans h.size k.size, fun x => (k.frozen x).trans (h.frozen x),
   fun i hi _ => (k.block i (Nat.lt_of_lt_of_le hi h.size) (fun e => by have := ho i e.symm; omega)).trans (h.block i hi (by simp))⟩
theorem Kp.keeps {o : Option Nat} {w w' : World} (h : Kp o w w') {k : Nat} {b : Obj} (hb : w.heap[k]? = some b) (hn : some k ≠ o) : w'.heap[k]? = some b := by
  have hlt : k < w.heap.size := by
    rcases Nat.lt_or_ge k w.heap.size with h | h
    · exact h
    · rw [Array.getElem?_eq_none h] at hb; cases hb
  rw [h.block k hlt hn]; exact hb
theorem Kp.grown {W w' : World} (h : Kp none W w') : Grown W w' := by
  refine ⟨⟨h.os, h.output, fun i hi => ?_⟩, h.frozen, h.size⟩
  rw [h.block i hi (by simp)]
  split <;> simp_all
theorem lt_of_at {w : World} {k : Nat} {b : Obj} (hb : w.heap[k]? = some b) : k < w.heap.size := by
  rcases Nat.lt_or_ge k w.heap.size with h | h
  · exact h
  · rw [Array.getElem?_eq_none h] at hb; cases hb

/-- A block of these cells. -/
def Has (w : World) (b : Nat) (t : TypeId) (cs : Array Value) : Prop := w.heap[b]? = some (.cells cs t (0, 0))
theorem Has.lt {w : World} {b : Nat} {t : TypeId} {cs : Array Value} (h : Has w b t cs) : b < w.heap.size := lt_of_at h
theorem Has.cell {w : World} {b : Nat} {t : TypeId} {cs : Array Value} (h : Has w b t cs) (i : Nat) : w.cell? ⟨b, i, none⟩ = cs[i]? := by
  have h' : w.heap[b]? = some (.cells cs t (0, 0)) := h
  simp [World.cell?, h']
theorem Has.free {w : World} {b : Nat} {t : TypeId} {cs : Array Value} (h : Has w b t cs) (i : Nat) : w.frozen? ⟨b, i, none⟩ = false := by
  have h' : w.heap[b]? = some (.cells cs t (0, 0)) := h
  simp [World.frozen?, h']
theorem Has.kp {o : Option Nat} {w w' : World} {b : Nat} {t : TypeId} {cs : Array Value} (h : Has w b t cs) (k : Kp o w w') (hn : some b ≠ o) : Has w' b t cs := k.keeps h hn
theorem Has.drew {w : World} {b : Nat} {t : TypeId} {cs : Array Value} (h : Has w b t cs) : Has w.drew b t cs := h
theorem Has.new (w : World) (c : Array Value) (t : TypeId) : Has (w.alloc (.cells c t)) w.heap.size t c := (MapKept.heap_alloc w _).1
theorem Has.alloc {w : World} {b : Nat} {t : TypeId} {cs : Array Value} (h : Has w b t cs) (o : Obj) : Has (w.alloc o) b t cs := (Below.heap_alloc _ _ _ h.lt).trans h
theorem Has.other {w : World} {b : Nat} {t : TypeId} {cs : Array Value} (h : Has w b t cs) {p : Addr} (hp : b ≠ p.block) (u : Value) : Has (w.setCell p u) b t cs := (Below.heap_setCell _ _ _ _ hp).trans h
theorem Has.set {w : World} {b : Nat} {t : TypeId} {cs : Array Value} (h : Has w b t cs) (i : Nat) (u : Value) : Has (w.setCell ⟨b, i, none⟩ u) b t (cs.setIfInBounds i u) := by
  have h' : w.heap[b]? = some (.cells cs t (0, 0)) := h
  show (w.setCell ⟨b, i, none⟩ u).heap[b]? = _
  simp only [World.setCell, Array.getElem?_modify, if_pos, h', Option.map_some]
  simp
end Go.Proofs.YtionnhjldcpmjaaGreatDoor
