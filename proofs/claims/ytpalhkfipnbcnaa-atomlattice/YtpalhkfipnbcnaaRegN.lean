/-
  What a search among regions in order finds: plain mathematics.
-/
import Derived.Test.YtpalhkfipnbcnaaRegM
set_option linter.unusedVariables false
namespace Go.Proofs.Ytpalhkfipnbcnaa
theorem So.get {lo hi : Int} {L : List Rg} (h : So lo hi L) {i j : Nat} {r q : Rg} (hij : i < j) (hr : L[i]? = some r) (hq : L[j]? = some q) : r.e ≤ q.s := by
  obtain ⟨h1, rfl⟩ := List.getElem?_eq_some_iff.1 hr
  obtain ⟨h2, rfl⟩ := List.getElem?_eq_some_iff.1 hq
  exact List.pairwise_iff_getElem.1 h.1 i j h1 h2 hij
theorem So.take {lo hi : Int} {L : List Rg} (h : So lo hi L) (k : Nat) : So lo hi (L.take k) :=
  ⟨h.1.sublist (List.take_sublist _ _), fun r hr => h.2 r (List.mem_of_mem_take hr)⟩
theorem tot_take (L : List Rg) (k : Nat) (r : Rg) (hk : L[k]? = some r) : tot (L.take (k + 1)) = tot (L.take k) + (r.e - r.s) := by
  rw [List.take_add_one, hk, tot_append]; simp [tot]
/-- The first that ends behind x. -/
theorem seek_end {lo hi x : Int} {L : List Rg} {k : Nat} (h : So lo hi L) (h1 : 0 < k → ∀ r, L[k - 1]? = some r → r.e ≤ x) (h2 : ∀ r, L[k]? = some r → x < r.e) (hk : k ≤ L.length) {r : Rg} (hr : r ∈ L) :
    r.e ≤ x ∨ L[k]? = some r ∨ ∃ q, L[k]? = some q ∧ q.e ≤ r.s ∧ x < q.e := by
  obtain ⟨i, hi, hir⟩ := List.mem_iff_getElem.1 hr
  have hir : L[i]? = some r := by rw [List.getElem?_eq_getElem hi, hir]
  rcases Nat.lt_trichotomy i k with h3 | h3 | h3
  · left
    by_cases h4 : i = k - 1
    · subst h4; exact h1 (by omega) r hir
    · have hk1 : k - 1 < L.length := by omega
      have h5 := h1 (by omega) L[k - 1] (List.getElem?_eq_getElem hk1)
      have h6 := h.get (i := i) (j := k - 1) (by omega) hir (List.getElem?_eq_getElem hk1)
      have h7 := h.2 L[k - 1] (List.getElem_mem hk1)
      omega
  · subst h3; exact .inr (.inl hir)
  · have hk1 : k < L.length := by omega
    exact .inr (.inr ⟨L[k], List.getElem?_eq_getElem hk1, h.get h3 (List.getElem?_eq_getElem hk1) hir, h2 _ (List.getElem?_eq_getElem hk1)⟩)
/-- The first that begins at x or behind it. -/
theorem seek_start {lo hi x : Int} {L : List Rg} {k : Nat} (h : So lo hi L) (h1 : 0 < k → ∀ r, L[k - 1]? = some r → r.s < x) (h2 : ∀ r, L[k]? = some r → x ≤ r.s) (hk : k ≤ L.length) {r : Rg} (hr : r ∈ L) :
    x ≤ r.s ∨ (0 < k ∧ L[k - 1]? = some r) ∨ (0 < k ∧ ∃ q, L[k - 1]? = some q ∧ r.e ≤ q.s ∧ q.s < x) := by
  obtain ⟨i, hi, hir⟩ := List.mem_iff_getElem.1 hr
  have hir : L[i]? = some r := by rw [List.getElem?_eq_getElem hi, hir]
  rcases Nat.lt_or_ge i k with h3 | h3
  · by_cases h4 : i = k - 1
    · subst h4; exact .inr (.inl ⟨by omega, hir⟩)
    · have hk1 : k - 1 < L.length := by omega
      exact .inr (.inr ⟨by omega, L[k - 1], List.getElem?_eq_getElem hk1, h.get (j := k - 1) (by omega) hir (List.getElem?_eq_getElem hk1), h1 (by omega) _ (List.getElem?_eq_getElem hk1)⟩)
  · left
    have hk1 : k < L.length := by omega
    have h5 := h2 L[k] (List.getElem?_eq_getElem hk1)
    rcases Nat.lt_or_ge k i with h4 | h4
    · have h6 := h.get h4 (List.getElem?_eq_getElem hk1) hir
      have h7 := h.2 L[k] (List.getElem_mem hk1)
      omega
    · obtain rfl : i = k := by omega
      rw [List.getElem?_eq_getElem hi] at hir
      cases hir; exact h5
/-- Where x is mapped: in the first that ends behind it. -/
theorem in_seek {lo hi x p : Int} {L : List Rg} {k : Nat} (h : So lo hi L) (h1 : 0 < k → ∀ r, L[k - 1]? = some r → r.e ≤ x) (h2 : ∀ r, L[k]? = some r → x < r.e) (hk : k ≤ L.length) :
    In L x p ↔ ∃ r, L[k]? = some r ∧ r.s ≤ x ∧ r.p = p := by
  constructor
  · rintro ⟨r, hr, a1, a2, a3⟩
    rcases seek_end h h1 h2 hk hr with b | b | ⟨q, b1, b2, b3⟩
    · omega
    · exact ⟨r, b, a1, a3⟩
    · omega
  · rintro ⟨r, hr, a1, a3⟩
    exact ⟨r, List.mem_of_getElem? hr, a1, h2 r hr, a3⟩
/-- Nothing of a span is mapped. -/
def FreeIn (L : List Rg) (s e : Int) : Prop := ∀ x p, s ≤ x → x < e → ¬ In L x p
theorem free_seek {lo hi s e : Int} {L : List Rg} {k : Nat} (h : So lo hi L) (hse : s < e) (h1 : 0 < k → ∀ r, L[k - 1]? = some r → r.e ≤ s) (h2 : ∀ r, L[k]? = some r → s < r.e) (hk : k ≤ L.length) :
    FreeIn L s e ↔ ∀ r, L[k]? = some r → e ≤ r.s := by
  constructor
  · intro hf r hr
    have h3 := h.2 r (List.mem_of_getElem? hr)
    have h4 := h2 r hr
    rcases Int.lt_or_le r.s e with h5 | h5
    · exact absurd ⟨r, List.mem_of_getElem? hr, by omega, by omega, rfl⟩ (hf (max s r.s) r.p (by omega) (by omega))
    · exact h5
  · rintro hf x p hx1 hx2 ⟨r, hr, a1, a2, a3⟩
    rcases seek_end h h1 h2 hk hr with b | b | ⟨q, b1, b2, b3⟩
    · omega
    · have := hf r b; omega
    · have := hf q b1; have := h.2 q (List.mem_of_getElem? b1); omega
/-- A place may be used so: it is mapped, with all of prot. -/
def May (L : List Rg) (band : Int → Int) (p x : Int) : Prop := ∃ q, In L x q ∧ band q = p
end Go.Proofs.Ytpalhkfipnbcnaa
