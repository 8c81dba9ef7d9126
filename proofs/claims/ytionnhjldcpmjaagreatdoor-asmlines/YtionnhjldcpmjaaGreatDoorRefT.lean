/-
  Pieces of texts.
-/
import Derived.Test.YtionnhjldcpmjaaGreatDoorRefN
import Derived.Test.YtionnhjldcpmjaaGreatDoorAsmU
import Derived.Test.YtionnhjldcpmjaaGreatDoorBack
import Derived.Deep.RegionHeld3
set_option linter.unusedVariables false
set_option linter.unusedSimpArgs false
namespace Go.Proofs.YtionnhjldcpmjaaGreatDoor
open Go.RowKit

open Go.Sort
theorem add_two (x y : List UInt8) (m n : Nat) (hx : x.length ≤ m) (hy : y.length ≤ n) (hm : m ≤ 1000) (hn : n ≤ 1000) :
    ∃ z, z = x ++ y ∧ z.length ≤ m + n ∧ ∀ w : World, (Op.stringOp .add ⟨x.toArray⟩ ⟨y.toArray⟩).run Tryz.prog w = .ok (str z) w :=
  ⟨_, rfl, by rw [List.length_append]; omega, add_run x y ⟨by omega, by omega⟩⟩
/-- Cells that are read, kept. -/
theorem keep4 {w0 u w' : World} {b : Nat} {x1 x2 x3 : Value} (h : u.cell? ⟨b, 1, none⟩ = some x1 ∧ u.cell? ⟨b, 2, none⟩ = some x2 ∧ u.cell? ⟨b, 3, none⟩ = some x3 ∧ Bl w0 u) (k : Bl u w') :
    w'.cell? ⟨b, 1, none⟩ = some x1 ∧ w'.cell? ⟨b, 2, none⟩ = some x2 ∧ w'.cell? ⟨b, 3, none⟩ = some x3 ∧ Bl w0 w' :=
  ⟨k.cell h.1, k.cell h.2.1, k.cell h.2.2.1, h.2.2.2.trans k⟩
/-- The orders, as the reference lays them. -/
def ordV : Array Value := #[.string ⟨#[]⟩, .string ⟨#[46, 114, 108]⟩, .string ⟨#[46, 97, 113]⟩, .string ⟨#[46, 97, 113, 114, 108]⟩]
theorem strs_at (n : Nat) (hn : n < 4) (w : World) : (w.alloc (.cells ordV 9)).cell? ⟨w.heap.size, n, none⟩ = some (str (ordOf n)) := by
  rw [World.cell?_alloc_new]
  have h : n = 0 ∨ n = 1 ∨ n = 2 ∨ n = 3 := by omega
  rcases h with rfl | rfl | rfl | rfl <;> rfl
theorem ords_at (n : Nat) (hn : n < 4) : ∀ h, ([.string ⟨#[]⟩, .string ⟨#[46, 114, 108]⟩, .string ⟨#[46, 97, 113]⟩, .string ⟨#[46, 97, 113, 114, 108]⟩] : List Value)[n]'h = str (ordOf n) := by
  intro h
  have h : n = 0 ∨ n = 1 ∨ n = 2 ∨ n = 3 := by omega
  rcases h with rfl | rfl | rfl | rfl <;> rfl

end Go.Proofs.YtionnhjldcpmjaaGreatDoor
