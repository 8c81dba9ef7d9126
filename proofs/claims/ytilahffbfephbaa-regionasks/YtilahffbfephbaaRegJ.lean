/-
  Bytes that came in; the list of RegionBack.
-/
import Derived.Test.YtilahffbfephbaaRegI
set_option linter.unusedVariables false
set_option linter.unusedSimpArgs false
namespace Go.Proofs.Ytilahffbfephbaa
open Go.RowKit
set_option maxRecDepth 100000
/-- What is told of a slice of numbers that came in. -/
def IsRow' (k : IntKind) (w : World) (a : Option Addr) (len cap : Nat) (zs : List Int) : Prop :=
  (a = none ∧ len = 0 ∧ cap = 0 ∧ zs = []) ∨
  ∃ x, a = some x ∧ len ≤ cap ∧ cap ≤ maxLen ∧ zs.length = cap ∧ (∀ i, i < zs.length → w.cell? (x.add i) = some (.int k (zs.getD i 0))) ∧ ∀ n ∈ zs, (Lit.int k n).wf = true
/-- Bytes: where they stand, and that they are bytes. -/
def Byts (w : World) (a : Option Addr) (len : Nat) : Prop := 0 < len → ∃ b off, a = some ⟨b, off, none⟩ ∧ ∀ k, k < len → ∃ c : Int, w.cell? ⟨b, off + k, none⟩ = some (.int .u8 c) ∧ 0 ≤ c ∧ c ≤ 255
theorem isRow_byts {w : World} {a : Option Addr} {len cap : Nat} {z : List Int} (h : IsRow' .u8 w a len cap z) : Byts w a len ∧ len ≤ 9223372036854775807 := by
  rcases h with ⟨rfl, rfl, rfl, rfl⟩ | ⟨x, rfl, hl, hm, hz, hcell, hwz⟩
  · exact ⟨fun h => absurd h (by omega), by omega⟩
  · refine ⟨fun h0 => ?_, by simp only [maxLen] at hm; omega⟩
    have h1 := hcell 0 (by omega)
    obtain ⟨b, off, spot⟩ := x
    have hspot : spot = none := by simpa [Addr.add] using World.cell?_spot h1
    subst hspot
    refine ⟨b, off, rfl, fun k hk => ⟨z.getD k 0, ?_, ?_⟩⟩
    · have h2 := hcell k (by omega)
      by_cases hk0 : k = 0
      · subst hk0; simpa [Addr.add] using h2
      · simpa [Addr.add, hk0] using h2
    · have hkz : k < z.length := by omega
      have h3 := hwz (z.getD k 0) (by rw [List.getD_eq_getElem?_getD, List.getElem?_eq_getElem hkz]; exact List.getElem_mem hkz)
      generalize z.getD k 0 = c at *
      have h4 : (decide ((0 : Int) ≤ c) && decide (c ≤ 255)) = true := h3
      simp only [Bool.and_eq_true, decide_eq_true_eq] at h4
      exact h4
theorem Byts.bl {w w' : World} {a : Option Addr} {len : Nat} (h : Byts w a len) (k : Bl w w') : Byts w' a len := fun h0 => by
  obtain ⟨b, off, h1, h2⟩ := h h0
  exact ⟨b, off, h1, fun j hj => by obtain ⟨c, h3, h4⟩ := h2 j hj; exact ⟨c, k.cell' h3, h4⟩⟩
/-! ### RegionBack -/
def backL (p : Int) : List Rg := [⟨4096, 413696, p⟩]
theorem span_back : Span 4096 413696 := ⟨by omega, by omega, by omega, by omega⟩
theorem back_rs (p : Int) : Rs (backL p) := one_rs (by omega) span_back
theorem back_in {p a q : Int} : In (backL p) a q ↔ 4096 ≤ a ∧ a < 413696 ∧ p = q := In_one
theorem back_mapped {p s t : Int} (h1 : 4096 ≤ s) (h2 : t ≤ 413696) : Mapped (backL p) s t := fun y a b => ⟨p, back_in.2 ⟨by omega, by omega, rfl⟩⟩
theorem back_few {p q s t : Int} (h0 : 4096 ≤ s) (hs : Span s t) (h2 : t ≤ 413696) : (layL (backL p) s t [⟨s, t, q⟩]).length ≤ 256 := by
  have := ((back_rs p).lay (p := q) (by omega) hs).few 101 (by omega) (fun a r h => by
    rcases (lay_in (back_rs p) (by omega) hs a r).1 h with h | h
    · omega
    · have := back_in.1 h.2; omega)
  omega
theorem back_few2 {p s t : Int} (h0 : 4096 ≤ s) (hs : Span s t) (h2 : t ≤ 413696) : (layL (backL p) s t []).length ≤ 256 := by
  have := ((back_rs p).cut (by omega) hs).few 101 (by omega) (fun a r h => by
    have h := (cut_in (back_rs p) (by omega) hs a r).1 h
    have := back_in.1 h.2; omega)
  omega
theorem back_again {p q s t : Int} (h0 : 4096 ≤ s) (hs : Span s t) (h2 : t ≤ 413696) : layL (layL (backL p) s t [⟨s, t, q⟩]) s t [⟨s, t, p⟩] = backL p := by
  refine (((back_rs p).lay (by omega) hs).lay (by omega) hs).eq (back_rs p) fun a r => ?_
  rw [lay_in ((back_rs p).lay (by omega) hs) (by omega) hs, lay_in (back_rs p) (by omega) hs, back_in]
  omega
theorem back_again2 {p s t : Int} (h0 : 4096 ≤ s) (hs : Span s t) (h2 : t ≤ 413696) : layL (layL (backL p) s t []) s t [⟨s, t, p⟩] = backL p := by
  refine (((back_rs p).cut (by omega) hs).lay (by omega) hs).eq (back_rs p) fun a r => ?_
  rw [lay_in ((back_rs p).cut (by omega) hs) (by omega) hs, cut_in (back_rs p) (by omega) hs, back_in]
  omega
theorem back_free {p s t : Int} (h0 : 4096 ≤ s) (hs : Span s t) : FreeIn (layL (backL p) s t []) s t := fun x q h1 h2 h3 => by
  have := (cut_in (back_rs p) (by omega) hs x q).1 h3
  omega
end Go.Proofs.Ytilahffbfephbaa
