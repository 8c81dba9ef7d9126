/-
  The lists of RegionMany.
-/
import Derived.Test.YtilahffbfephbaaRegI
set_option linter.unusedVariables false
set_option linter.unusedSimpArgs false
namespace Go.Proofs.Ytilahffbfephbaa
def mr (j : Nat) : Rg := ⟨((j : Int) + 1) * 4096, ((j : Int) + 2) * 4096, 1 + (j : Int) % 2⟩
def many (n : Nat) : List Rg := (List.range n).map mr
theorem many_len (n : Nat) : (many n).length = n := by simp [many]
theorem many_mem {n : Nat} {r : Rg} (h : r ∈ many n) : ∃ j, j < n ∧ r = mr j := by
  simp only [many, List.mem_map, List.mem_range] at h
  obtain ⟨j, h1, h2⟩ := h
  exact ⟨j, h1, h2.symm⟩
theorem mr_rs (l : List Nat) (hp : l.Pairwise (· < ·)) (hb : ∀ j, j ∈ l → j ≤ 400) : Rs (l.map mr) := by
  refine ⟨⟨?_, fun r hr => ?_⟩, fun r hr => ?_⟩
  · rw [List.pairwise_map]
    refine hp.imp fun h => ?_
    simp only [mr]
    exact ⟨by omega, fun h1 h2 => by omega⟩
  · obtain ⟨j, hj, rfl⟩ := List.mem_map.1 hr
    have := hb j hj
    simp only [mr]; omega
  · obtain ⟨j, hj, rfl⟩ := List.mem_map.1 hr
    simp only [mr]; omega
theorem many_rs (n : Nat) (hn : n ≤ 400) : Rs (many n) := mr_rs _ List.pairwise_lt_range (fun j hj => by simp at hj; omega)
/-- A region behind all others. -/
theorem lay_behind {L : List Rg} (h : Rs L) {s e p : Int} (h0 : 0 ≤ s) (hs : Span s e) (hb : ∀ q, q ∈ L → q.e ≤ s ∧ (q.e = s → q.p ≠ p)) : layL L s e [⟨s, e, p⟩] = L ++ [⟨s, e, p⟩] := by
  have hr : Rs (L ++ [⟨s, e, p⟩]) := by
    have h1 := one_rs (p := p) h0 hs
    refine ⟨⟨List.pairwise_append.2 ⟨h.nm.1, h1.nm.1, fun x hx y hy => ?_⟩, fun r hr => ?_⟩, fun r hr => ?_⟩
    · rw [List.mem_singleton] at hy; subst hy; exact hb x hx
    · rcases List.mem_append.1 hr with hr | hr
      · exact h.nm.2 r hr
      · exact h1.nm.2 r hr
    · rcases List.mem_append.1 hr with hr | hr
      · exact h.al r hr
      · exact h1.al r hr
  refine (h.lay h0 hs).eq hr fun a q => ?_
  rw [lay_in h h0 hs, In_append, In_one]
  constructor
  · rintro (h1 | h1)
    · exact .inr h1
    · exact .inl h1.2
  · rintro (⟨r, hr, a1, a2, a3⟩ | h1)
    · have := hb r hr
      exact .inr ⟨by omega, r, hr, a1, a2, a3⟩
    · exact .inl h1
theorem many_span (k : Nat) (hk : k ≤ 400) : Span (((k : Int) + 1) * 4096) (((k : Int) + 2) * 4096) := ⟨by omega, by omega, by omega, by omega⟩
theorem many_next (k : Nat) (hk : k ≤ 300) : layL (many k) (((k : Int) + 1) * 4096) (((k : Int) + 2) * 4096) [⟨((k : Int) + 1) * 4096, ((k : Int) + 2) * 4096, 1 + (k : Int) % 2⟩] = many (k + 1) := by
  rw [lay_behind (many_rs k (by omega)) (by omega) (many_span k (by omega)) (fun q hq => by
    obtain ⟨j, hj, rfl⟩ := many_mem hq
    simp only [mr]
    exact ⟨by omega, fun h => by omega⟩)]
  simp only [many, List.range_succ, List.map_append, List.map_cons, List.map_nil, mr]
theorem many_more (k : Nat) (h1 : 256 ≤ k) (h2 : k ≤ 300) : 256 < (layL (many 256) (((k : Int) + 1) * 4096) (((k : Int) + 2) * 4096) [⟨((k : Int) + 1) * 4096, ((k : Int) + 2) * 4096, 1 + (k : Int) % 2⟩]).length := by
  rw [lay_behind (many_rs 256 (by omega)) (by omega) (many_span k (by omega)) (fun q hq => by
    obtain ⟨j, hj, rfl⟩ := many_mem hq
    simp only [mr]
    exact ⟨by omega, fun h => by omega⟩)]
  rw [List.length_append, many_len]; simp
/-! ### and then -/
def rest : List Rg := ((List.range 254).map (· + 2)).map mr
theorem rest_rs : Rs rest := mr_rs _ (by rw [List.pairwise_map]; exact List.pairwise_lt_range.imp fun h => by omega) (fun j hj => by simp at hj; omega)
theorem rest_len : rest.length = 254 := by simp [rest]
theorem rest_mem {r : Rg} (h : r ∈ rest) : 12288 ≤ r.s ∧ r.p ≤ 2 := by
  simp only [rest, List.mem_map, List.mem_range] at h
  obtain ⟨j, ⟨i, hi, rfl⟩, rfl⟩ := h
  simp only [mr]
  omega
theorem rest_in {a p : Int} (h : In rest a p) : 12288 ≤ a := by
  obtain ⟨r, hr, h1, _⟩ := h
  have := rest_mem hr
  omega
theorem many_two (n : Nat) : many (n + 2) = [mr 0, mr 1] ++ ((List.range n).map (· + 2)).map mr := by
  unfold many
  rw [List.range_succ_eq_map, List.range_succ_eq_map]
  simp [Function.comp_def]
theorem many_top : many 256 = [⟨4096, 8192, 1⟩, ⟨8192, 12288, 2⟩] ++ rest := many_two 254
structure Top (X : List Rg) : Prop where
  rs : Rs X
  low : ∀ r, r ∈ X → 4096 ≤ r.s ∧ r.e ≤ 12288
theorem Top.rs_ {X : List Rg} (h : Top X) (hp : ∀ r, r ∈ X → 3 ≤ r.p) : Rs (X ++ rest) := by
  refine ⟨⟨List.pairwise_append.2 ⟨h.rs.nm.1, rest_rs.nm.1, fun x hx y hy => ?_⟩, fun r hr => ?_⟩, fun r hr => ?_⟩
  · have h1 := h.low x hx
    have h2 := hp x hx
    have h3 := rest_mem hy
    exact ⟨by omega, fun _ => by omega⟩
  · rcases List.mem_append.1 hr with hr | hr
    · exact h.rs.nm.2 r hr
    · exact rest_rs.nm.2 r hr
  · rcases List.mem_append.1 hr with hr | hr
    · exact h.rs.al r hr
    · exact rest_rs.al r hr
theorem top_lay {X X' : List Rg} (h : Rs (X ++ rest)) (h' : Rs (X' ++ rest)) {s e p : Int} (h0 : 0 ≤ s) (hs : Span s e) (he : e ≤ 12288)
    (hin : ∀ a q, In X' a q ↔ (s ≤ a ∧ a < e ∧ p = q) ∨ ((a < s ∨ e ≤ a) ∧ In X a q)) : layL (X ++ rest) s e [⟨s, e, p⟩] = X' ++ rest := by
  refine (h.lay h0 hs).eq h' fun a q => ?_
  rw [lay_in h h0 hs, In_append, In_append, hin]
  constructor
  · rintro (h1 | ⟨h1, h2 | h2⟩)
    · exact .inl (.inl h1)
    · exact .inl (.inr ⟨h1, h2⟩)
    · exact .inr h2
  · rintro ((h1 | h1) | h1)
    · exact .inl h1
    · exact .inr ⟨h1.1, .inl h1.2⟩
    · have := rest_in h1
      exact .inr ⟨by omega, .inr h1⟩
def X1 : List Rg := [⟨4096, 12288, 4⟩]
def X2 : List Rg := [⟨4096, 8192, 5⟩, ⟨8192, 12288, 4⟩]
def X3 : List Rg := [⟨4096, 12288, 5⟩]
theorem two_in {x y : Rg} {a p : Int} : In [x, y] a p ↔ (x.s ≤ a ∧ a < x.e ∧ x.p = p) ∨ (y.s ≤ a ∧ a < y.e ∧ y.p = p) := by rw [In_cons, In_one]
theorem X1_rs : Rs (X1 ++ rest) := Top.rs_ ⟨one_rs (by omega) ⟨by omega, by omega, by omega, by omega⟩, fun r hr => by simp [X1] at hr; subst hr; simp⟩ (fun r hr => by simp [X1] at hr; subst hr; simp)
theorem X3_rs : Rs (X3 ++ rest) := Top.rs_ ⟨one_rs (by omega) ⟨by omega, by omega, by omega, by omega⟩, fun r hr => by simp [X3] at hr; subst hr; simp⟩ (fun r hr => by simp [X3] at hr; subst hr; simp)
theorem X2_rs : Rs (X2 ++ rest) := by
  have h2 : ∀ r, r ∈ X2 → r = ⟨4096, 8192, 5⟩ ∨ r = ⟨8192, 12288, 4⟩ := fun r hr => by simpa [X2] using hr
  refine Top.rs_ ⟨⟨⟨by simp [X2], fun r hr => ?_⟩, fun r hr => ?_⟩, fun r hr => ?_⟩ (fun r hr => ?_) <;> rcases h2 r hr with rfl | rfl <;> simp
theorem lay1 : layL (many 256) 4096 12288 [⟨4096, 12288, 4⟩] = X1 ++ rest := by
  have h := many_rs 256 (by omega)
  rw [many_top] at h ⊢
  refine top_lay h X1_rs (by omega) ⟨by omega, by omega, by omega, by omega⟩ (by omega) fun a q => ?_
  rw [X1, In_one, two_in]
  simp only; omega
theorem lay2 : layL (X1 ++ rest) 4096 8192 [⟨4096, 8192, 5⟩] = X2 ++ rest := by
  refine top_lay X1_rs X2_rs (by omega) ⟨by omega, by omega, by omega, by omega⟩ (by omega) fun a q => ?_
  rw [X1, X2, In_one, two_in]
  simp only; omega
theorem lay3 : layL (X2 ++ rest) 8192 12288 [⟨8192, 12288, 5⟩] = X3 ++ rest := by
  refine top_lay X2_rs X3_rs (by omega) ⟨by omega, by omega, by omega, by omega⟩ (by omega) fun a q => ?_
  rw [X3, X2, In_one, two_in]
  simp only; omega
theorem X2_mapped : Mapped (X2 ++ rest) 8192 12288 := fun y h1 h2 => ⟨4, In_append.2 (.inl (two_in.2 (.inr ⟨h1, h2, rfl⟩)))⟩
theorem X1_len : (X1 ++ rest).length = 255 := by rw [List.length_append, rest_len]; rfl
theorem X2_len : (X2 ++ rest).length = 256 := by rw [List.length_append, rest_len]; rfl
theorem X3_len : (X3 ++ rest).length = 255 := by rw [List.length_append, rest_len]; rfl
end Go.Proofs.Ytilahffbfephbaa
