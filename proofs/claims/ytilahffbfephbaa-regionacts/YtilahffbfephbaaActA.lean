/-
  The span of an act.
-/
import Derived.Test.YtilahffbfephbaaRefF
import Derived.Deep.Slices
import Derived.ChangeSame
set_option linter.unusedVariables false
set_option linter.unusedSimpArgs false
namespace Go.Proofs.Ytilahffbfephbaa
open Go.RowKit Go.ChangeShapes Go.WideShapes Go.Deep
set_option maxRecDepth 100000
def SpanPost (w : World) (e : Ending) (w' : World) : Prop := ∃ s t, e = .returned (.tuple #[.int .u64 s, .int .u64 t]) ∧ 0 ≤ s ∧ s ≤ 274877911040 ∧ 0 ≤ t ∧ t ≤ 274877911040 ∧ (Span s t → t ≤ 409600) ∧ Bl w w'
theorem spanPost_mk (w w' : World) (s t : Int) (h0 : 0 ≤ s) (h1 : s ≤ 274877902848) (h2 : 0 ≤ t) (h3 : t ≤ 409600) (hb : Bl w w') : SpanPost w (.returned (.tuple #[.int .u64 s, .int .u64 t])) w' :=
  ⟨s, t, rfl, h0, by omega, h2, by omega, fun _ => h3, hb⟩
set_option maxHeartbeats 2000000 in
theorem span_any (w : World) (d A N p : Int) (odd : Bool) : Calls Try.prog 12 #[.agg #[.int .i64 d, .int .i64 A, .int .i64 N, .int .i64 p, .bool odd]] w (SpanPost w) := by
  have hA0 : 0 ≤ IntKind.u32.wrap A := by rw [IntKind.wrap_u32]; omega
  have hA1 : IntKind.u32.wrap A ≤ 4294967295 := by rw [IntKind.wrap_u32]; omega
  have hN0 : 0 ≤ IntKind.u32.wrap N := by rw [IntKind.wrap_u32]; omega
  have hN1 : IntKind.u32.wrap N ≤ 4294967295 := by rw [IntKind.wrap_u32]; omega
  rcases odd with _ | _
  · go_enter Try.func12, Try.ntmps12
    go_wp2
    go_ret2
    exact spanPost_mk _ _ _ _ (by omega) (by omega) (by omega) (by omega) (Bl.new _ _)
  · go_enter Try.func12, Try.ntmps12
    go_wp2
    · go_ret2
      exact spanPost_mk _ _ _ _ (by omega) (by omega) (by omega) (by omega) (Bl.new _ _)
    · go_ret2
      exact spanPost_mk _ _ _ _ (by omega) (by omega) (by omega) (by omega) (Bl.new _ _)
    · go_ret2
      exact spanPost_mk _ _ _ _ (by omega) (by omega) (by omega) (by omega) (Bl.new _ _)
    · go_ret2
      exact ⟨274877902848, 274877911040, rfl, by omega, by omega, by omega, by omega, fun h => by have := h.2.2.2; omega, Bl.new _ _⟩
/-- Acts that came in: where they stand. -/
def ActsAt (w : World) (a : Option Addr) (len : Nat) : Prop := 0 < len → ∃ b off, a = some ⟨b, off, none⟩ ∧ ∀ k, k < len → ∃ (d A N p : Int) (odd : Bool),
  w.cell? ⟨b, off + k * 5, none⟩ = some (.int .i64 d) ∧ w.cell? ⟨b, off + k * 5 + 1, none⟩ = some (.int .i64 A) ∧ w.cell? ⟨b, off + k * 5 + 2, none⟩ = some (.int .i64 N) ∧ w.cell? ⟨b, off + k * 5 + 3, none⟩ = some (.int .i64 p) ∧ w.cell? ⟨b, off + k * 5 + 4, none⟩ = some (.bool odd)
theorem ActsAt.bl {w w' : World} {a : Option Addr} {len : Nat} (h : ActsAt w a len) (k : Bl w w') : ActsAt w' a len := fun h0 => by
  obtain ⟨b, off, h1, h2⟩ := h h0
  exact ⟨b, off, h1, fun j hj => by
    obtain ⟨d, A, N, p, odd, c0, c1, c2, c3, c4⟩ := h2 j hj
    exact ⟨d, A, N, p, odd, k.cell' c0, k.cell' c1, k.cell' c2, k.cell' c3, k.cell' c4⟩⟩
theorem act_fields {H : Type} {enc : TypeId × Value → H} {w : World} {base : Nat} {spare : Nat → Bool} {held : Bool} {fuel : Nat} {cs : List Value} {x : DataW H × List MemPlace} (h : DataW.trod enc Try.prog w base spare held fuel 29 cs = some x) :
    ∃ (d A N p : Int) (odd : Bool), cs = [.int .i64 d, .int .i64 A, .int .i64 N, .int .i64 p, .bool odd] := by
  obtain ⟨xs, n, _, _, hlen, hxl, hf⟩ := DataW.trod_struct Try.underlying29 h
  have hc5 : Try.prog.cellsOf 29 = 5 := by kernel_rfl
  have c3 : Try.prog.cellsOf 3 = 1 := by kernel_rfl
  have c4 : Try.prog.cellsOf 4 = 1 := by kernel_rfl
  rw [hc5] at hlen
  match cs, hlen with
  | [v0, v1, v2, v3, v4], _ =>
    match xs, hxl with
    | [x0, x1, x2, x3, x4], _ =>
      have h0 : DataW.trod enc Try.prog w base spare held n 3 [v0] = some x0 := by simpa [c3] using hf 0 _ rfl
      have h1 : DataW.trod enc Try.prog w base spare held n 3 [v1] = some x1 := by simpa [c3] using hf 1 _ rfl
      have h2 : DataW.trod enc Try.prog w base spare held n 3 [v2] = some x2 := by simpa [c3] using hf 2 _ rfl
      have h3 : DataW.trod enc Try.prog w base spare held n 3 [v3] = some x3 := by simpa [c3] using hf 3 _ rfl
      have h4 : DataW.trod enc Try.prog w base spare held n 4 [v4] = some x4 := by simpa [c4] using hf 4 _ rfl
      obtain ⟨d, e0, _⟩ := DataW.trod_int Try.underlying3 h0
      obtain ⟨A, e1, _⟩ := DataW.trod_int Try.underlying3 h1
      obtain ⟨N, e2, _⟩ := DataW.trod_int Try.underlying3 h2
      obtain ⟨p, e3, _⟩ := DataW.trod_int Try.underlying3 h3
      obtain ⟨o, e4, _⟩ := DataW.trod_bool Try.underlying4 h4
      cases e0; cases e1; cases e2; cases e3; cases e4
      exact ⟨d, A, N, p, o, rfl⟩
theorem open_acts {H : Type} {enc : TypeId × Value → H} {w : World} {base : Nat} {spare : Nat → Bool} {held : Bool} {fuel len cap : Nat} {a : Option Addr} {x : DataW H × List MemPlace} (h : DataW.trod enc Try.prog w base spare held fuel 22 [.slice a len cap] = some x) :
    ActsAt w a len ∧ len ≤ 9223372036854775807 := by
  rcases open_slice Try.underlying22 h with ⟨h1, _⟩ | ⟨ad, l, c, m, n, D, Pl, h1, h2, h3, h4, h5, h6, h7⟩
  · injection h1 with h1
    injection h1 with e1 e2
    subst e1 e2
    exact ⟨fun h => absurd h (by omega), by omega⟩
  · injection h1 with h1
    injection h1 with e1 e2 e3
    subst e1 e2 e3
    have hc5 : Try.prog.cellsOf 29 = 5 := by kernel_rfl
    have hm : len ≤ m := by rw [h5]; split <;> omega
    have key : ∀ k, k < len → ∃ (d A N p : Int) (odd : Bool), ∀ j, j < 5 → w.cell? ((ad.add (k * 5)).add j) = [Value.int .i64 d, .int .i64 A, .int .i64 N, .int .i64 p, .bool odd][j]? := fun k hk => by
      obtain ⟨cs, hcs, hts⟩ := h7 k (by omega)
      rw [hc5] at hcs
      obtain ⟨d, A, N, p, odd, rfl⟩ := act_fields hts
      obtain ⟨_, _, hat⟩ := World.cells?_some hcs
      exact ⟨d, A, N, p, odd, hat⟩
    refine ⟨fun h0 => ?_, by simp only [maxLen] at h4; omega⟩
    obtain ⟨b, off, spot⟩ := ad
    have hspot : spot = none := by
      obtain ⟨d, A, N, p, odd, hat⟩ := key 0 h0
      have h8 := hat 0 (by omega)
      simp only [Nat.zero_mul, List.getElem?_cons_zero] at h8
      simpa [Addr.add] using World.cell?_spot h8
    subst hspot
    refine ⟨b, off, rfl, fun k hk => ?_⟩
    obtain ⟨d, A, N, p, odd, hat⟩ := key k hk
    have e : ∀ j, ((⟨b, off, none⟩ : Addr).add (k * 5)).add j = ⟨b, off + k * 5 + j, none⟩ := fun j => by
      unfold Addr.add; by_cases a0 : k * 5 = 0 <;> by_cases b0 : j = 0 <;> simp [a0, b0]
    simp only [e] at hat
    exact ⟨d, A, N, p, odd, hat 0 (by omega), hat 1 (by omega), hat 2 (by omega), hat 3 (by omega), hat 4 (by omega)⟩
end Go.Proofs.Ytilahffbfephbaa
