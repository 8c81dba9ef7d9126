/-
  What Lay makes: facts ahead of its walk.
-/
import Derived.Test.YtilahffbfephbaaRefB
set_option linter.unusedVariables false
set_option linter.unusedSimpArgs false
namespace Go.Proofs.Ytilahffbfephbaa
open Go.RowKit
set_option maxRecDepth 100000
theorem out_count {n : Nat} {P : List Pg} {s e : Int} (h : Pgs n P) (hs0 : 0 ≤ s) (hs : s % 4096 = 0) (he : e % 4096 = 0) (hse : s < e) (hn : e ≤ (n : Int) * 4096) : ((outP P s e).length : Int) + (e - s) / 4096 ≤ n := by
  have ho := outP_pgs (s := s) (e := e) h
  have hmem : ∀ x, x ∈ outP P s e → (x.no * 4096 < s ∨ e ≤ x.no * 4096) := fun x hx => (outP_mem.1 hx).2
  generalize outP P s e = R at *
  have h1 := filter_both (fun x => decide (x.no * 4096 < s)) R
  have h2 := (count_le (x := 0) (y := s / 4096) (ho.1.sublist (List.filter_sublist (p := fun x => decide (x.no * 4096 < s)))) (fun a ha => by
    rw [List.mem_filter] at ha
    have := ho.2 a ha.1
    simp at ha
    omega) (by omega)).1
  have h3 := (count_le (x := e / 4096) (y := n) (ho.1.sublist (List.filter_sublist (p := fun x => !decide (x.no * 4096 < s)))) (fun a ha => by
    rw [List.mem_filter] at ha
    have h4 := ho.2 a ha.1
    have h5 := hmem a ha.1
    simp at ha
    omega) (by omega)).1
  omega
theorem slice41from (A : Option Addr) (n cap k : Nat) (hk : k ≤ n) (hn : n ≤ cap) (w : World) : (Instr.sliceAt 41 (.slice A n cap) (some (.int .i64 (k : Int))) none none).run Try.prog w = .ok (.slice (if cap = k then A else A.map (·.add (k * 3))) (n - k) (cap - k)) w := by
  obtain ⟨i0, hi0, hz0, hz1, hz2⟩ := info_parts info70
  simp [Instr.sliceAt, Instr.slice, run_underlying Try.underlying41, Instr.sliceBounds, Instr.sliceBound, asIntOf, sizeOf, typeInfo, hi0, hz1, Result.andThen]
  rw [if_pos hk]
theorem flat_drop (R : List Pg) (k : Nat) : flat pgC (R.drop k) = (flat pgC R).drop (k * 3) := by
  by_cases hk : k ≤ R.length
  · have h1 : flat pgC R = flat pgC (R.take k) ++ flat pgC (R.drop k) := by rw [← flat_append, List.take_append_drop]
    have h2 : (flat pgC (R.take k)).length = k * 3 := by rw [flat_length pgC_len, List.length_take]; omega
    have h3 : (flat pgC (R.take k)).drop (k * 3) = [] := List.drop_of_length_le (by omega)
    rw [h1, List.drop_append, h2, h3]
    simp
  · have h1 := flat_length pgC_len R
    rw [List.drop_of_length_le (by omega), List.drop_of_length_le (by omega)]; rfl
/-- A part of a row of pages, as a slice. -/
theorem part_cells {w : World} {base n cap k : Nat} {A : Option Addr} {R : List Pg} (h : PRow w base (.slice A n cap) R) (hk : k ≤ n) :
    n = R.length ∧ n ≤ cap ∧ ((if cap = k then A else A.map (·.add (k * 3))) = none → R.drop k = [] ∧ cap - k = 0) ∧ ∀ ad, (if cap = k then A else A.map (·.add (k * 3))) = some ad → ∀ j u, (flat pgC (R.drop k))[j]? = some u → w.cell? (ad.add j) = some u := by
  rcases h.1.2 with ⟨h1, h0⟩ | ⟨g, cap', cur, h1, h2, h3, h4, h5, h6, h7⟩
  · injection h1 with e1 e2 e3
    subst e1 e2 e3
    have hR : R = [] := List.eq_nil_of_length_eq_zero h0
    subst hR
    obtain rfl : k = 0 := by omega
    exact ⟨rfl, Nat.le_refl _, fun _ => ⟨rfl, rfl⟩, fun ad had => by simp at had⟩
  · injection h1 with e1 e2 e3
    subst e1 e2 e3
    refine ⟨rfl, h4, fun e => ?_, fun ad had j u hu => ?_⟩
    · split at e <;> simp at e
    · by_cases hc : cap = k
      · have hd : R.drop k = [] := List.drop_of_length_le (by omega)
        rw [hd] at hu
        simp [flat] at hu
      · rw [if_neg hc] at had
        simp only [Option.map_some, Option.some.injEq] at had
        subst had
        rw [flat_drop, List.getElem?_drop] at hu
        have hlt := (List.getElem?_eq_some_iff.1 hu).1
        rw [flat_length pgC_len] at hlt
        have e1 : ((⟨g, 0, none⟩ : Addr).add (k * 3)).add j = ⟨g, k * 3 + j, none⟩ := by
          unfold Addr.add; by_cases a0 : k * 3 = 0 <;> by_cases b0 : j = 0 <;> simp [a0, b0]
        rw [e1, h.1.cellAt (k * 3 + j) hlt]
        exact hu
theorem info5 : (Try.prog.info? 5).map (fun i => (i.zero, i.size, i.bytes)) = some (some (.int .u8 0), 1, 1) := by kernel_rfl
/-- Bytes that are made. -/
theorem made46 : ∃ Z : Array Value, ∀ w, (Instr.makeSlice 46 (.int .i64 4096) (.int .i64 4096)).run Try.prog w = .ok (.slice (some ⟨w.heap.size, 0, none⟩) 4096 4096) (w.alloc (.cells Z 5)) := by
  obtain ⟨i0, hi0, hz0, hz1, hz2⟩ := info_parts info5
  refine ⟨madeCells (Value.int .u8 0).cells 4096, fun w => ?_⟩
  have h := run_make (P := Try.prog) w 46 5 i0 (.int .u8 0) Try.underlying46 hi0 hz0 .i64 .i64 4096 4096 (by omega) (by omega) (by rw [hz2]; omega) (by omega)
  simpa [hz1] using h
end Go.Proofs.Ytilahffbfephbaa
