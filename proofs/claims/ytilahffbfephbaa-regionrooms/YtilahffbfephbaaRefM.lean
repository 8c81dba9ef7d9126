/-
  Pages one by one, and the regions that they are: plain mathematics.
-/
import Derived.Test.YtilahffbfephbaaRegI
set_option linter.unusedVariables false
set_option linter.unusedSimpArgs false
namespace Go.Proofs.Ytilahffbfephbaa
/-- A page: its number, what may be done there, where its bytes lie. -/
structure Pg where
  no : Int
  p : Int
  b : Nat
def toR (x : Pg) : Rg := ⟨x.no * 4096, x.no * 4096 + 4096, x.p⟩
noncomputable def regs (P : List Pg) : List Rg := join [] (P.map toR)
/-- In order, all among the first n. -/
def Pgs (n : Nat) (P : List Pg) : Prop := P.Pairwise (fun x y => x.no < y.no) ∧ ∀ x, x ∈ P → 0 ≤ x.no ∧ x.no < (n : Int)
theorem Pgs.nil (n : Nat) : Pgs n [] := ⟨List.Pairwise.nil, fun x h => by cases h⟩
theorem pg_so {n : Nat} {P : List Pg} (h : Pgs n P) : So 0 ((n : Int) * 4096) (P.map toR) := by
  refine ⟨?_, fun r hr => ?_⟩
  · rw [List.pairwise_map]
    exact h.1.imp fun h => by simp only [toR]; omega
  · obtain ⟨x, hx, rfl⟩ := List.mem_map.1 hr
    have := h.2 x hx
    simp only [toR]; omega
theorem pg_al (P : List Pg) : Al (P.map toR) := fun r hr => by
  obtain ⟨x, hx, rfl⟩ := List.mem_map.1 hr
  simp only [toR]; omega
theorem pg_tot (P : List Pg) : tot (P.map toR) = (P.length : Int) * 4096 := by
  induction P with
  | nil => simp [tot]
  | cons x P ih => simp only [List.map_cons, tot, ih, List.length_cons, toR]; omega
/-- A place is on one of the pages, with this prot. -/
def OnP (P : List Pg) (a q : Int) : Prop := ∃ x, x ∈ P ∧ x.no * 4096 ≤ a ∧ a < x.no * 4096 + 4096 ∧ x.p = q
theorem onP_in {P : List Pg} {a q : Int} : In (P.map toR) a q ↔ OnP P a q := by
  constructor
  · rintro ⟨r, hr, h⟩
    obtain ⟨x, hx, rfl⟩ := List.mem_map.1 hr
    exact ⟨x, hx, h⟩
  · rintro ⟨x, hx, h⟩
    exact ⟨toR x, List.mem_map_of_mem hx, h⟩
theorem regs_all {n : Nat} {P : List Pg} (h : Pgs n P) (hn : (n : Int) ≤ 67108864) :
    Rs (regs P) ∧ (∀ a q, In (regs P) a q ↔ OnP P a q) ∧ tot (regs P) = (P.length : Int) * 4096 ∧ (regs P).length ≤ P.length := by
  obtain ⟨h1, h2, h3, h4, h5, _⟩ := join_all (Nm.nil 0 274877906944) ((pg_so h).mono (by omega) (by omega)) (fun q r hq _ => by cases hq)
  refine ⟨⟨h1, h4 Al.nil (pg_al P)⟩, fun a q => ?_, ?_, by simpa [regs] using h5⟩
  · show In (join _ _) a q ↔ _
    rw [h2, onP_in]
    exact ⟨fun h => h.resolve_left (In_nil _ _), .inr⟩
  · show tot (join _ _) = _
    rw [h3, pg_tot]; simp [tot]
theorem Pgs.len {n : Nat} {P : List Pg} (h : Pgs n P) : P.length ≤ n := by
  have h1 := (pg_so h).tot_le (by omega)
  rw [pg_tot] at h1
  omega
/-- Those out of a span. -/
def outP (P : List Pg) (s e : Int) : List Pg := P.filter fun x => decide (x.no * 4096 < s) || decide (e ≤ x.no * 4096)
theorem outP_mem {P : List Pg} {s e : Int} {x : Pg} : x ∈ outP P s e ↔ x ∈ P ∧ (x.no * 4096 < s ∨ e ≤ x.no * 4096) := by
  simp [outP, List.mem_filter]
theorem outP_pgs {n : Nat} {P : List Pg} {s e : Int} (h : Pgs n P) : Pgs n (outP P s e) :=
  ⟨h.1.sublist List.filter_sublist, fun x hx => h.2 x (outP_mem.1 hx).1⟩
theorem outP_on {P : List Pg} {s e a q : Int} (hs : s % 4096 = 0) (he : e % 4096 = 0) (hse : s < e) : OnP (outP P s e) a q ↔ (a < s ∨ e ≤ a) ∧ OnP P a q := by
  constructor
  · rintro ⟨x, hx, h1, h2, h3⟩
    obtain ⟨h4, h5⟩ := outP_mem.1 hx
    exact ⟨by omega, x, h4, h1, h2, h3⟩
  · rintro ⟨h0, x, hx, h1, h2, h3⟩
    exact ⟨x, outP_mem.2 ⟨hx, by omega⟩, h1, h2, h3⟩
/-- New pages from s up to a. -/
def News (p s a : Int) (N : List Pg) : Prop := (N.length : Int) * 4096 = a - s ∧ ∀ (i : Nat) (x : Pg), N[i]? = some x → x.no * 4096 = s + (i : Int) * 4096 ∧ x.p = p
theorem News.nil (p s : Int) : News p s s [] := ⟨by simp, fun i x h => by simp at h⟩
theorem News.push {p s a : Int} {N : List Pg} (h : News p s a N) (x : Pg) (hx : x.no * 4096 = a) (hp : x.p = p) : News p s (a + 4096) (N ++ [x]) := by
  refine ⟨?_, fun i y hy => ?_⟩
  · have := h.1
    rw [List.length_append]; simp; omega
  · rcases Nat.lt_trichotomy i N.length with hi | hi | hi
    · rw [List.getElem?_append_left hi] at hy
      exact h.2 i y hy
    · subst hi
      rw [List.getElem?_append_right (by omega)] at hy
      simp at hy
      subst hy
      have := h.1
      exact ⟨by omega, hp⟩
    · rw [List.getElem?_append_right (by omega), List.getElem?_eq_none (by simp; omega)] at hy
      cases hy
theorem News.mem {p s a : Int} {N : List Pg} (h : News p s a N) {x : Pg} (hx : x ∈ N) : s ≤ x.no * 4096 ∧ x.no * 4096 + 4096 ≤ a ∧ x.p = p := by
  obtain ⟨i, hi, rfl⟩ := List.mem_iff_getElem.1 hx
  have h1 := h.2 i _ (List.getElem?_eq_getElem hi)
  have h2 := h.1
  omega
theorem News.on {p s a : Int} {N : List Pg} (h : News p s a N) (hs : s % 4096 = 0) {y q : Int} : OnP N y q ↔ s ≤ y ∧ y < a ∧ p = q := by
  constructor
  · rintro ⟨x, hx, h1, h2, h3⟩
    have := h.mem hx
    omega
  · rintro ⟨h1, h2, h3⟩
    have h4 := h.1
    have hi : ((y - s) / 4096).toNat < N.length := by omega
    have h5 := h.2 _ _ (List.getElem?_eq_getElem hi)
    exact ⟨N[((y - s) / 4096).toNat], List.getElem_mem hi, by omega, by omega, by omega⟩
theorem News.pair {p s a : Int} {N : List Pg} (h : News p s a N) : N.Pairwise fun x y => x.no < y.no := by
  rw [List.pairwise_iff_getElem]
  intro i j hi hj hij
  have h1 := h.2 i _ (List.getElem?_eq_getElem hi)
  have h2 := h.2 j _ (List.getElem?_eq_getElem hj)
  omega
/-- What is laid over a span. -/
theorem laid_pgs {n : Nat} {P N : List Pg} {s e p : Int} (h : Pgs n P) (hs0 : 0 ≤ s) (hs : s % 4096 = 0) (he : e % 4096 = 0) (hse : s < e) (hn : e ≤ (n : Int) * 4096) (hN : News p s e N) (k : Nat)
    (h1 : ∀ x, x ∈ (outP P s e).take k → x.no * 4096 < s) (h2 : ∀ x, x ∈ (outP P s e).drop k → e ≤ x.no * 4096) :
    Pgs n ((outP P s e).take k ++ N ++ (outP P s e).drop k) ∧ ∀ a q, OnP ((outP P s e).take k ++ N ++ (outP P s e).drop k) a q ↔ (s ≤ a ∧ a < e ∧ p = q) ∨ ((a < s ∨ e ≤ a) ∧ OnP P a q) := by
  have ho := outP_pgs (s := s) (e := e) h
  refine ⟨⟨?_, fun x hx => ?_⟩, fun a q => ?_⟩
  · refine List.pairwise_append.2 ⟨List.pairwise_append.2 ⟨ho.1.sublist (List.take_sublist _ _), hN.pair, fun x hx y hy => ?_⟩, ho.1.sublist (List.drop_sublist _ _), fun x hx y hy => ?_⟩
    · have a1 := h1 x hx
      have a2 := hN.mem hy
      omega
    · have a2 := h2 y hy
      rcases List.mem_append.1 hx with hx | hx
      · have := h1 x hx; omega
      · have := hN.mem hx; omega
  · rcases List.mem_append.1 hx with hx | hx
    · rcases List.mem_append.1 hx with hx | hx
      · exact ho.2 x (List.mem_of_mem_take hx)
      · have := hN.mem hx; omega
    · exact ho.2 x (List.mem_of_mem_drop hx)
  · rw [← outP_on hs he hse, ← hN.on hs]
    constructor
    · rintro ⟨x, hx, h⟩
      rcases List.mem_append.1 hx with hx | hx
      · rcases List.mem_append.1 hx with hx | hx
        · exact .inr ⟨x, List.mem_of_mem_take hx, h⟩
        · exact .inl ⟨x, hx, h⟩
      · exact .inr ⟨x, List.mem_of_mem_drop hx, h⟩
    · rintro (⟨x, hx, h⟩ | ⟨x, hx, h⟩)
      · exact ⟨x, by simp [hx], h⟩
      · have hx2 : x ∈ (outP P s e).take k ++ (outP P s e).drop k := by rw [List.take_append_drop]; exact hx
        rcases List.mem_append.1 hx2 with hx2 | hx2
        · exact ⟨x, by simp [hx2], h⟩
        · exact ⟨x, by simp [hx2], h⟩
/-- How far the pages ahead of a span go. -/
theorem split_at {n : Nat} {P : List Pg} (h : Pgs n P) (s : Int) (k : Nat) (h2 : ∀ x, P[k]? = some x → s ≤ x.no * 4096) : ∀ x, x ∈ P.drop k → s ≤ x.no * 4096 := by
  intro x hx
  obtain ⟨i, hi, rfl⟩ := List.mem_iff_getElem.1 hx
  rw [List.length_drop] at hi
  rw [List.getElem_drop]
  have hk : k < P.length := by omega
  have h3 := h2 P[k] (List.getElem?_eq_getElem hk)
  rcases Nat.eq_zero_or_pos i with h0 | h0
  · subst h0; simpa using h3
  · have := List.pairwise_iff_getElem.1 h.1 k (k + i) hk (by omega) (by omega)
    omega
/-- Other permissions for a span. -/
def protP (P : List Pg) (s e p : Int) : List Pg := P.map fun x => if s ≤ x.no * 4096 ∧ x.no * 4096 < e then ⟨x.no, p, x.b⟩ else x
theorem protP_pgs {n : Nat} {P : List Pg} {s e p : Int} (h : Pgs n P) : Pgs n (protP P s e p) := by
  refine ⟨?_, fun x hx => ?_⟩
  · rw [protP, List.pairwise_map]
    refine h.1.imp fun h => ?_
    split <;> split <;> exact h
  · obtain ⟨y, hy, rfl⟩ := List.mem_map.1 hx
    have := h.2 y hy
    split <;> exact this
theorem protP_on {P : List Pg} {s e p a q : Int} (hs : s % 4096 = 0) (he : e % 4096 = 0) (hm : ∀ y, s ≤ y → y < e → ∃ q, OnP P y q) : OnP (protP P s e p) a q ↔ (s ≤ a ∧ a < e ∧ p = q) ∨ ((a < s ∨ e ≤ a) ∧ OnP P a q) := by
  constructor
  · rintro ⟨x, hx, h1, h2, h3⟩
    obtain ⟨y, hy, rfl⟩ := List.mem_map.1 hx
    by_cases hc : s ≤ y.no * 4096 ∧ y.no * 4096 < e
    · rw [if_pos hc] at h1 h2 h3
      simp only at h1 h2 h3
      exact .inl ⟨by omega, by omega, h3⟩
    · rw [if_neg hc] at h1 h2 h3
      exact .inr ⟨by omega, y, hy, h1, h2, h3⟩
  · rintro (⟨h1, h2, h3⟩ | ⟨h0, x, hx, h1, h2, h3⟩)
    · obtain ⟨q', x, hx, a1, a2, a3⟩ := hm a h1 h2
      refine ⟨_, List.mem_map_of_mem hx, ?_⟩
      rw [if_pos (by omega)]
      exact ⟨a1, a2, h3⟩
    · refine ⟨_, List.mem_map_of_mem hx, ?_⟩
      rw [if_neg (by omega)]
      exact ⟨h1, h2, h3⟩
theorem filter_both (f : Pg → Bool) (P : List Pg) : P.length = (P.filter f).length + (P.filter fun x => !f x).length := by
  induction P with
  | nil => rfl
  | cons x P ih =>
    simp only [List.length_cons, List.filter_cons]
    cases f x <;> simp <;> omega
/-- Pages of a span, counted: all of it is mapped just where there are as many as it has. -/
theorem count_le {P : List Pg} {x y : Int} (h : P.Pairwise fun a b => a.no < b.no) (hb : ∀ a, a ∈ P → x ≤ a.no ∧ a.no < y) (hxy : x ≤ y) : (P.length : Int) ≤ y - x ∧ ((P.length : Int) = y - x → ∀ m, x ≤ m → m < y → ∃ a, a ∈ P ∧ a.no = m) := by
  induction P generalizing x with
  | nil => exact ⟨by simp; omega, fun h m h1 h2 => by simp at h; omega⟩
  | cons c P ih =>
    have hc := hb c (List.mem_cons_self ..)
    rw [List.pairwise_cons] at h
    obtain ⟨h1, h2⟩ := ih (x := c.no + 1) h.2 (fun a ha => by
      have := h.1 a ha
      have := hb a (List.mem_cons_of_mem _ ha)
      omega) (by omega)
    simp only [List.length_cons]
    refine ⟨by omega, fun he m m1 m2 => ?_⟩
    by_cases hm : m = c.no
    · exact ⟨c, List.mem_cons_self .., hm.symm⟩
    · obtain ⟨a, ha, hn⟩ := h2 (by omega) m (by omega) m2
      exact ⟨a, List.mem_cons_of_mem _ ha, hn⟩
theorem count_ge {P : List Pg} (k : Nat) {x : Int} (h : P.Pairwise fun a b => a.no < b.no) (hb : ∀ a, a ∈ P → x ≤ a.no) (hall : ∀ m, x ≤ m → m < x + k → ∃ a, a ∈ P ∧ a.no = m) : k ≤ P.length := by
  induction P generalizing x k with
  | nil =>
    rcases Nat.eq_zero_or_pos k with h0 | h0
    · omega
    · obtain ⟨a, ha, _⟩ := hall x (by omega) (by omega); cases ha
  | cons c P ih =>
    rcases Nat.eq_zero_or_pos k with h0 | h0
    · omega
    · rw [List.pairwise_cons] at h
      have hc : c.no = x := by
        obtain ⟨a, ha, hn⟩ := hall x (by omega) (by omega)
        rcases List.mem_cons.1 ha with rfl | ha
        · exact hn
        · have h5 := h.1 a ha
          have h6 := hb c (List.mem_cons_self ..)
          omega
      have := ih (k - 1) (x := x + 1) h.2 (fun a ha => by have := h.1 a ha; omega) (fun m m1 m2 => by
        obtain ⟨a, ha, hn⟩ := hall m (by omega) (by omega)
        rcases List.mem_cons.1 ha with rfl | ha
        · omega
        · exact ⟨a, ha, hn⟩)
      simp only [List.length_cons]; omega
theorem count_span {n : Nat} {P : List Pg} {s e : Int} (h : Pgs n P) (hs : s % 4096 = 0) (he : e % 4096 = 0) (hse : s < e) :
    ((P.length : Int) - ((outP P s e).length : Int) = (e - s) / 4096 ↔ ∀ y, s ≤ y → y < e → ∃ q, OnP P y q) ∧ (outP P s e).length ≤ P.length := by
  have hlen : P.length = (outP P s e).length + (P.filter fun x => !(decide (x.no * 4096 < s) || decide (e ≤ x.no * 4096))).length := by
    exact filter_both _ P
  have hin : ∀ a, a ∈ (P.filter fun x => !(decide (x.no * 4096 < s) || decide (e ≤ x.no * 4096))) ↔ a ∈ P ∧ s ≤ a.no * 4096 ∧ a.no * 4096 < e := fun a => by
    rw [List.mem_filter]; simp
  have hpw := h.1.sublist (List.filter_sublist (p := fun x => !(decide (x.no * 4096 < s) || decide (e ≤ x.no * 4096))))
  generalize (P.filter fun x => !(decide (x.no * 4096 < s) || decide (e ≤ x.no * 4096))) = Q at *
  obtain ⟨h1, h2⟩ := count_le (x := s / 4096) (y := e / 4096) hpw (fun a ha => by have := (hin a).1 ha; omega) (by omega)
  refine ⟨⟨fun heq y y1 y2 => ?_, fun hall => ?_⟩, by omega⟩
  · obtain ⟨a, ha, hn⟩ := h2 (by omega) (y / 4096) (by omega) (by omega)
    exact ⟨a.p, a, ((hin a).1 ha).1, by omega, by omega, rfl⟩
  · have := count_ge ((e - s) / 4096).toNat (x := s / 4096) hpw (fun a ha => by have := (hin a).1 ha; omega) (fun m m1 m2 => by
      obtain ⟨q, x, hx, a1, a2, a3⟩ := hall (m * 4096) (by omega) (by omega)
      exact ⟨x, (hin x).2 ⟨hx, by omega, by omega⟩, by omega⟩)
    omega
end Go.Proofs.Ytilahffbfephbaa
