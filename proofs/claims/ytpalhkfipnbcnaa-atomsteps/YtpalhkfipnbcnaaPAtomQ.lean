/-
  Atomic instructions that came in; what a law notes of both spaces.
-/
import Derived.Test.YtpalhkfipnbcnaaQ21
import Derived.Test.YtpalhkfipnbcnaaPActZ
set_option linter.unusedVariables false
set_option linter.unusedSimpArgs false
namespace Go.Proofs.Ytpalhkfipnbcnaa
open Go.RowKit Go.ChangeShapes Go.WideShapes Go.Deep
set_option maxRecDepth 100000
/-- Acts that came in: where they stand. -/
def ActsN (w : World) (a : Option Addr) (len : Nat) : Prop := 0 < len → ∃ b off, a = some ⟨b, off, none⟩ ∧ ∀ k, k < len → ∃ (op ad x : Int),
  w.cell? ⟨b, off + k * 3, none⟩ = some (.int .i64 op) ∧ w.cell? ⟨b, off + k * 3 + 1, none⟩ = some (.int .u64 ad) ∧ w.cell? ⟨b, off + k * 3 + 2, none⟩ = some (.int .u64 x) ∧ (0 ≤ ad ∧ ad ≤ 18446744073709551615) ∧ (0 ≤ x ∧ x ≤ 18446744073709551615)
theorem ActsN.bl {w w' : World} {a : Option Addr} {len : Nat} (h : ActsN w a len) (k : Bl w w') : ActsN w' a len := fun h0 => by
  obtain ⟨b, off, h1, h2⟩ := h h0
  exact ⟨b, off, h1, fun j hj => by
    obtain ⟨op, ad, x, c0, c1, c2, r⟩ := h2 j hj
    exact ⟨op, ad, x, k.cell' c0, k.cell' c1, k.cell' c2, r⟩⟩
theorem actN_fields {H : Type} {enc : TypeId × Value → H} {w : World} {base : Nat} {spare : Nat → Bool} {held : Bool} {fuel : Nat} {cs : List Value} {x : DataW H × List MemPlace} (h : DataW.trod enc Try.prog w base spare held fuel 39 cs = some x) :
    ∃ (op ad x : Int), cs = [.int .i64 op, .int .u64 ad, .int .u64 x] ∧ (0 ≤ ad ∧ ad ≤ 18446744073709551615) ∧ (0 ≤ x ∧ x ≤ 18446744073709551615) := by
  obtain ⟨xs, n, _, _, hlen, hxl, hf⟩ := DataW.trod_struct Try.underlying39 h
  have hc3 : Try.prog.cellsOf 39 = 3 := by kernel_rfl
  have c3 : Try.prog.cellsOf 3 = 1 := by kernel_rfl
  have c5 : Try.prog.cellsOf 22 = 1 := by kernel_rfl
  rw [hc3] at hlen
  match cs, hlen with
  | [v0, v1, v2], _ =>
    match xs, hxl with
    | [x0, x1, x2], _ =>
      have h0 : DataW.trod enc Try.prog w base spare held n 3 [v0] = some x0 := by simpa [c3] using hf 0 _ rfl
      have h1 : DataW.trod enc Try.prog w base spare held n 22 [v1] = some x1 := by simpa [c3, c5] using hf 1 _ rfl
      have h2 : DataW.trod enc Try.prog w base spare held n 22 [v2] = some x2 := by simpa [c3, c5] using hf 2 _ rfl
      obtain ⟨d, e0, _⟩ := DataW.trod_int Try.underlying3 h0
      obtain ⟨ad, e1, g1⟩ := DataW.trod_int Try.underlying22 h1
      obtain ⟨y, e2, g2⟩ := DataW.trod_int Try.underlying22 h2
      cases e0; cases e1; cases e2
      exact ⟨d, ad, y, rfl, u64_wf g1.2, u64_wf g2.2⟩
theorem open_actsN {H : Type} {enc : TypeId × Value → H} {w : World} {base : Nat} {spare : Nat → Bool} {held : Bool} {fuel len cap : Nat} {a : Option Addr} {x : DataW H × List MemPlace} (h : DataW.trod enc Try.prog w base spare held fuel 31 [.slice a len cap] = some x) :
    ActsN w a len ∧ len ≤ 9223372036854775807 := by
  rcases open_slice Try.underlying31 h with ⟨h1, _⟩ | ⟨ad, l, c, m, n, D, Pl, h1, h2, h3, h4, h5, h6, h7⟩
  · injection h1 with h1
    injection h1 with e1 e2
    subst e1 e2
    exact ⟨fun h => absurd h (by omega), by omega⟩
  · injection h1 with h1
    injection h1 with e1 e2 e3
    subst e1 e2 e3
    have hc3 : Try.prog.cellsOf 39 = 3 := by kernel_rfl
    have hm : len ≤ m := by rw [h5]; split <;> omega
    have key : ∀ k, k < len → ∃ (op ad' x : Int), (∀ j, j < 3 → w.cell? ((ad.add (k * 3)).add j) = [Value.int .i64 op, .int .u64 ad', .int .u64 x][j]?) ∧ (0 ≤ ad' ∧ ad' ≤ 18446744073709551615) ∧ (0 ≤ x ∧ x ≤ 18446744073709551615) := fun k hk => by
      obtain ⟨cs, hcs, hts⟩ := h7 k (by omega)
      rw [hc3] at hcs
      obtain ⟨op, ad', x, rfl, r⟩ := actN_fields hts
      obtain ⟨_, _, hat⟩ := World.cells?_some hcs
      exact ⟨op, ad', x, hat, r⟩
    refine ⟨fun h0 => ?_, by simp only [maxLen] at h4; omega⟩
    obtain ⟨b, off, spot⟩ := ad
    have hspot : spot = none := by
      obtain ⟨op, ad', x, hat, _⟩ := key 0 h0
      have h8 := hat 0 (by omega)
      simp only [Nat.zero_mul, List.getElem?_cons_zero] at h8
      simpa [Addr.add] using World.cell?_spot h8
    subst hspot
    refine ⟨b, off, rfl, fun k hk => ?_⟩
    obtain ⟨op, ad', x, hat, r⟩ := key k hk
    have e : ∀ j, ((⟨b, off, none⟩ : Addr).add (k * 3)).add j = ⟨b, off + k * 3 + j, none⟩ := fun j => by
      unfold Addr.add; by_cases a0 : k * 3 = 0 <;> by_cases b0 : j = 0 <;> simp [a0, b0]
    simp only [e] at hat
    exact ⟨op, ad', x, hat 0 (by omega), hat 1 (by omega), hat 2 (by omega), r⟩
theorem bytesIn_prots {w : World} {A : Option Addr} {l c : Nat} {xs : List Int} (h : BytesIn w A l c xs) : Prots w A l (fun k => xs.getD k 0) := fun h0 => by
  obtain ⟨b, off, e, _⟩ := h.rd.at_ 0 (by rw [h.len]; exact h0)
  refine ⟨b, off, e, fun k hk => ⟨?_, h.bd k⟩⟩
  obtain ⟨b', off', e', hc⟩ := h.rd.at_ k (by rw [h.len]; exact hk)
  rw [e] at e'
  cases e'
  exact hc
theorem StepIs.still {L : List Rg} {M M' : Nat → Int} {ha hn op : Int} {a : Nat} {x : Int} {o : Out} (h : StepIs L M ha hn op a x o M') : o.k = 0 ∨ (o.k ≠ 0 ∧ o.ta = 0 ∧ o.tn = 0) := by
  cases h <;> simp [badO]
/-- Both spaces alike, what is held, and the law's box of it. -/
structure SI (K : Nat → Prop) (wr : World) (sb rb hb ga N : Nat) (L : List Rg) : Prop where
  ex : ∃ n M st ha hn, n ≤ N ∧ Two K wr sb rb n L M st 10 0 0 L M ∧ HAt wr hb rb 0 (List.replicate 32 0) ha hn ∧ wr.heap[ga]? = some (.cells #[.int .u64 ha, .int .i64 hn] 37 (0, 0))
end Go.Proofs.Ytpalhkfipnbcnaa
