/-
  Slices of numbers that came in.
-/
import Derived.Test.YtbngjbmfkekdnaaGreatDoorQ7
set_option linter.unusedVariables false
namespace Go.Proofs.YtbngjbmfkekdnaaGreatDoor
open Go.RowKit
/-- What is told of a slice of numbers that came in. -/
def IsRow' (k : IntKind) (w : World) (a : Option Addr) (len cap : Nat) (zs : List Int) : Prop :=
  (a = none ∧ len = 0 ∧ cap = 0 ∧ zs = []) ∨
  ∃ x, a = some x ∧ len ≤ cap ∧ cap ≤ maxLen ∧ zs.length = cap ∧ (∀ i, i < zs.length → w.cell? (x.add i) = some (.int k (zs.getD i 0))) ∧ ∀ n ∈ zs, (Lit.int k n).wf = true
/-- Numbers: where they stand, and that they fit their kind. -/
def Nums (q : IntKind) (w : World) (a : Option Addr) (len : Nat) : Prop := 0 < len → ∃ b off, a = some ⟨b, off, none⟩ ∧ ∀ k, k < len → ∃ c : Int, w.cell? ⟨b, off + k, none⟩ = some (.int q c) ∧ (Lit.int q c).wf = true
theorem isRow_nums {q : IntKind} {w : World} {a : Option Addr} {len cap : Nat} {z : List Int} (h : IsRow' q w a len cap z) : Nums q w a len ∧ len ≤ 9223372036854775807 := by
  rcases h with ⟨rfl, rfl, rfl, rfl⟩ | ⟨x, rfl, hl, hm, hz, hcell, hwz⟩
  · exact ⟨fun h => absurd h (by omega), by omega⟩
  · refine ⟨fun h0 => ?_, by simp only [maxLen] at hm; omega⟩
    have h1 := hcell 0 (by omega)
    obtain ⟨b, off, spot⟩ := x
    have hspot : spot = none := by simpa [Addr.add] using World.cell?_spot h1
    subst hspot
    refine ⟨b, off, rfl, fun k hk => ⟨z.getD k 0, ?_, ?_⟩⟩
    · have h2 := hcell k (by omega)
      by_cases hk0 : k = 0
      · subst hk0; simpa [Addr.add] using h2
      · simpa [Addr.add, hk0] using h2
    · have hkz : k < z.length := by omega
      exact hwz (z.getD k 0) (by rw [List.getD_eq_getElem?_getD, List.getElem?_eq_getElem hkz]; exact List.getElem_mem hkz)
theorem Nums.bl {q : IntKind} {w w' : World} {a : Option Addr} {len : Nat} (h : Nums q w a len) (k : Bl w w') : Nums q w' a len := fun h0 => by
  obtain ⟨b, off, h1, h2⟩ := h h0
  exact ⟨b, off, h1, fun j hj => by obtain ⟨c, h3, h4⟩ := h2 j hj; exact ⟨c, k.cell' h3, h4⟩⟩
theorem u8_in {a : Int} (h : (Lit.int .u8 a).wf = true) : 0 ≤ a ∧ a ≤ 255 := by
  have h4 : (decide ((0 : Int) ≤ a) && decide (a ≤ 255)) = true := h
  simpa only [Bool.and_eq_true, decide_eq_true_eq] using h4
theorem u16_in {a : Int} (h : (Lit.int .u16 a).wf = true) : 0 ≤ a ∧ a ≤ 65535 := by
  have h4 : (decide ((0 : Int) ≤ a) && decide (a ≤ 65535)) = true := h
  simpa only [Bool.and_eq_true, decide_eq_true_eq] using h4
theorem u32_in {a : Int} (h : (Lit.int .u32 a).wf = true) : 0 ≤ a ∧ a ≤ 4294967295 := by
  have h4 : (decide ((0 : Int) ≤ a) && decide (a ≤ 4294967295)) = true := h
  simpa only [Bool.and_eq_true, decide_eq_true_eq] using h4
theorem u64_wf {a : Int} (h : (Lit.int .u64 a).wf = true) : 0 ≤ a ∧ a ≤ 18446744073709551615 := by
  have h4 : (decide ((0 : Int) ≤ a) && decide (a ≤ 18446744073709551615)) = true := h
  simpa only [Bool.and_eq_true, decide_eq_true_eq] using h4
theorem i64_in {a : Int} (h : (Lit.int .i64 a).wf = true) : -9223372036854775808 ≤ a ∧ a ≤ 9223372036854775807 := by
  have h4 : (decide ((-9223372036854775808 : Int) ≤ a) && decide (a ≤ 9223372036854775807)) = true := h
  simpa only [Bool.and_eq_true, decide_eq_true_eq] using h4
end Go.Proofs.YtbngjbmfkekdnaaGreatDoor
