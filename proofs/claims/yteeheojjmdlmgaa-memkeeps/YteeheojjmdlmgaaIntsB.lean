/-
  Bytes that came in.
-/
import Derived.Test.YteeheojjmdlmgaaInts
set_option linter.unusedVariables false
namespace Go.Proofs.Yteeheojjmdlmgaa
open Go.RowKit
theorem isRow_bytes {w : World} {a : Option Addr} {len cap : Nat} {z : List Int} (h : IsRow' .u8 w a len cap z) :
    Rd w a (z.take len) ∧ (z.take len).length = len ∧ len ≤ cap ∧ (∀ k, 0 ≤ (z.take len).getD k 0 ∧ (z.take len).getD k 0 ≤ 255) ∧ len ≤ 9223372036854775807 ∧ (0 < len → ∀ ad, a = some ad → ad.block < w.heap.size) ∧ (a = none → cap = 0) := by
  rcases h with ⟨rfl, rfl, rfl, rfl⟩ | ⟨x, rfl, hl, hm, hz, hcell, hwz⟩
  · refine ⟨fun h => absurd h (by simp), rfl, Nat.le_refl _, fun k => by simp, by omega, fun h => absurd h (by omega), fun _ => rfl⟩
  · refine ⟨fun h0 => ⟨x, rfl, fun i hi => ?_⟩, by rw [List.length_take]; omega, hl, fun k => ?_, by simp only [maxLen] at hm; omega, fun h0 ad e => ?_, fun e => by cases e⟩
    · rw [List.length_take] at hi
      rw [hcell i (by omega), List.getD_eq_getElem?_getD, List.getD_eq_getElem?_getD, List.getElem?_take_of_lt (by omega)]
    · rw [List.getD_eq_getElem?_getD, List.getElem?_take]
      split
      · by_cases hk : k < z.length
        · rw [List.getElem?_eq_getElem hk]
          exact u8_in (hwz _ (List.getElem_mem hk))
        · rw [List.getElem?_eq_none (by omega)]; simp
      · simp
    · cases e
      have h1 := block_lt_of_cell (hcell 0 (by omega))
      rwa [add_block] at h1
end Go.Proofs.Yteeheojjmdlmgaa
