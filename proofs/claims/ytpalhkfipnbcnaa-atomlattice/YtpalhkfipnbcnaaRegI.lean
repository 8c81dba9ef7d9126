/-
  answers; lists of regions that the laws build.
-/
import Derived.Test.YtpalhkfipnbcnaaRegH
set_option linter.unusedVariables false
set_option linter.unusedSimpArgs false
namespace Go.Proofs.Ytpalhkfipnbcnaa
open Go.RowKit
set_option maxRecDepth 100000
theorem layL_new (s e p : Int) : layL [] s e [⟨s, e, p⟩] = [⟨s, e, p⟩] := by
  simp [layL, within, join, joinOne_nil]
theorem Fr.only_new {w w1 w2 : World} {b : Nat} (k : Bl w w1) (f : Fr (only b) w1 w2) (hb : w.heap.size ≤ b) : Bl w w2 :=
  ((Fr.of_bl (S := only b) k).trans f).bl fun j hj e => by have e : j = b := e; omega
/-- Regions: in order, whole pages, joined. -/
structure Rs (L : List Rg) : Prop where
  nm : Nm 0 274877906944 L
  al : Al L
theorem Rs.nil : Rs [] := ⟨Nm.nil _ _, Al.nil⟩
theorem Rs.lay {L : List Rg} (h : Rs L) {s e p : Int} (h0 : 0 ≤ s) (hs : Span s e) : Rs (layL L s e [⟨s, e, p⟩]) := by
  obtain ⟨a, b, c, d⟩ := hs
  obtain ⟨h1, h2, h3, h4⟩ := layL_all h.nm.so h0 c d (one_so (p := p) c)
  exact ⟨h1, h3 h.al a b (one_al a b)⟩
theorem Rs.cut {L : List Rg} (h : Rs L) {s e : Int} (h0 : 0 ≤ s) (hs : Span s e) : Rs (layL L s e []) := by
  obtain ⟨a, b, c, d⟩ := hs
  obtain ⟨h1, h2, h3, h4⟩ := layL_all h.nm.so h0 c d (So.nil s e)
  exact ⟨h1, h3 h.al a b Al.nil⟩
theorem lay_in {L : List Rg} (h : Rs L) {s e p : Int} (h0 : 0 ≤ s) (hs : Span s e) (a q : Int) : In (layL L s e [⟨s, e, p⟩]) a q ↔ (s ≤ a ∧ a < e ∧ p = q) ∨ ((a < s ∨ e ≤ a) ∧ In L a q) := by
  obtain ⟨_, _, c, d⟩ := hs
  rw [(layL_all h.nm.so h0 c d (one_so (p := p) c)).2.1, In_one]
theorem cut_in {L : List Rg} (h : Rs L) {s e : Int} (h0 : 0 ≤ s) (hs : Span s e) (a q : Int) : In (layL L s e []) a q ↔ (a < s ∨ e ≤ a) ∧ In L a q := by
  obtain ⟨_, _, c, d⟩ := hs
  rw [(layL_all h.nm.so h0 c d (So.nil s e)).2.1]
  constructor
  · rintro (h1 | h1)
    · exact absurd h1 (In_nil _ _)
    · exact h1
  · exact .inr
/-- The regions that have these places. -/
theorem Rs.eq {L M : List Rg} (h : Rs L) (k : Rs M) (e : ∀ a p, In L a p ↔ In M a p) : L = M := unique h.nm k.nm e
/-- All within n pages: no more regions than pages. -/
theorem Rs.few {L : List Rg} (h : Rs L) (n : Nat) (hn : (n : Int) * 4096 ≤ 274877906944) (hb : ∀ a p, In L a p → a < n * 4096) : L.length ≤ n := by
  have hso : So 0 ((n : Int) * 4096) L := by
    refine ⟨h.nm.so.1, fun r hr => ?_⟩
    have h1 := h.nm.2 r hr
    have h2 := hb (r.e - 1) r.p ⟨r, hr, by omega, by omega, rfl⟩
    omega
  have := len_le hso h.al (by omega)
  omega
theorem one_rs {s e p : Int} (h0 : 0 ≤ s) (hs : Span s e) : Rs [⟨s, e, p⟩] := by
  obtain ⟨a, b, c, d⟩ := hs
  exact ⟨(one_nm c).mono h0 d, one_al a b⟩
end Go.Proofs.Ytpalhkfipnbcnaa
