/-
  What the two listed variables hold, when a law's call begins; a start that meets it.
-/
import Derived.Test.YtfkecgidjicidaaDoorCompE
import Derived.ProofKit
import Derived.LaidMore
import Derived.OpenShut
import Derived.Stop.Joined
import Derived.Stop.LaidErr
import Derived.Lib.LaidTab
import Derived.Deep.Fields
set_option linter.unusedVariables false
namespace Go.Proofs.YtfkecgidjicidaaDoor
open Go.ChangeShapes Go.WideShapes Go.ChangeAt Go.RowKit
theorem own : ownKnob Tryd.prog.godebug = none := by kernel_rfl

/-- An array of arrays of integers that reads as these rows holds them, row for row. -/
theorem cells_of_rows {H : Type} {enc : TypeId × Value → H} {P : Program} {w : World} {base : Nat} {sp : Nat → Bool} {held : Bool} {fuel : Nat} {t e u : TypeId} {n m : Nat} {k : IntKind} {cs : List Value} {rows : List (List Int)} {p : List MemPlace}
    (ht : P.underlying t = some (.array n u)) (hu : P.underlying u = some (.array m e)) (he : P.underlying e = some (.int k)) (hce : P.cellsOf e = 1) (hcu : P.cellsOf u = m) (hct : P.cellsOf t = n * m)
    (h : DataW.trod enc P w base sp held fuel t cs = some (.agg (rows.map (Lib.tabData k)), p)) : ∀ i zs, rows[i]? = some zs → (cs.drop (i * m)).take m = zs.map fun z => Value.int k z := by
  cases fuel with
  | zero => simp [DataW.trod] at h
  | succ fuel =>
    simp only [DataW.trod, ht, hcu, hct] at h
    split at h
    · rename_i hl
      obtain ⟨xs, hm, hx⟩ := Option.map_eq_some_iff.1 h
      have hxs : xs.map (·.1) = rows.map (Lib.tabData (H := H) k) := by
        have := congrArg Prod.fst hx
        simpa using this
      have hxl : xs.length = n := by simpa using Lib.mapM_length hm
      have hrl : rows.length = n := by
        have := congrArg List.length hxs
        simp at this
        omega
      intro i zs hz
      have hi : i < n := by
        have := (List.getElem?_eq_some_iff.1 hz).1
        omega
      obtain ⟨b, hb, hf⟩ := Lib.mapM_at hm i i (by simp [hi])
      have h2 : (xs.map (·.1))[i]? = some b.1 := by simp [hb]
      rw [hxs] at h2
      simp only [List.getElem?_map, hz, Option.map_some, Option.some.injEq] at h2
      obtain ⟨b1, b2⟩ := b
      dsimp only at h2
      subst h2
      exact Lib.cells_of_tab hu he hce hcu hf
    · cases h
/-- The same from the row's condition, where the variable stands first. -/
theorem rows_of_head {P : Program} {W : World} {name : String} {k : IntKind} {rows : List (List Int)} {rest : List (String × DataW Unit)} {g : Nat} {t e u : TypeId} {n m : Nat}
    (hg : P.globalNamed name = some g) (hty : (P.globals[g]?).map (·.type) = some t) (ht : P.underlying t = some (.array n u)) (hu : P.underlying u = some (.array m e)) (he : P.underlying e = some (.int k))
    (hce : P.cellsOf e = 1) (hcu : P.cellsOf u = m) (hct : P.cellsOf t = n * m)
    (h : laidMet P ((name, .agg (rows.map (Lib.tabData k))) :: rest) W) : ∀ i zs, rows[i]? = some zs → ∀ j, j < m → W.cell? ⟨g, i * m + j, none⟩ = (zs.map fun z => Value.int k z)[j]? := by
  obtain ⟨ps, ⟨g', t', cs, fuel, p, q, hg', ht', hvar, hd, _, _⟩, _⟩ := h
  obtain rfl := Option.some.inj (hg.symm.trans hg')
  obtain rfl := Option.some.inj (hty.symm.trans ht')
  intro i zs hz j hj
  have h1 := cells_of_rows ht hu he hce hcu hct hd i zs hz
  rw [World.var?_cell hg hvar (i * m + j), ← h1]
  simp [List.getElem?_drop, hj]
theorem cells3 : Tryd.prog.cellsOf 3 = 1 := by kernel_rfl
theorem cells44 : Tryd.prog.cellsOf 44 = 8 := by kernel_rfl
theorem cells45 : Tryd.prog.cellsOf 45 = 4 * 8 := by kernel_rfl
theorem gO : Tryd.prog.globalNamed "marionette/comp.operators" = some 0 := by kernel_rfl
theorem yO : (Tryd.prog.globals[0]?).map (·.type) = some 45 := by kernel_rfl
theorem gR : Tryd.prog.globalNamed "marionette/comp.reckoners" = some 12 := by kernel_rfl
theorem yR : (Tryd.prog.globals[12]?).map (·.type) = some 44 := by kernel_rfl
def opRows : List (List Int) := [[22, 0, 13, 14, 0, 0, 20, 21], [22, 41, 22, 1, 27, 3, 5, 6], [28, 0, 13, 14, 31, 0, 20, 21], [0, 0, 0, 0, 0, 0, 0, 0]]
theorem tabO_of {W : World} {rest : List (String × DataW Unit)} (h : laidMet Tryd.prog (("marionette/comp.operators", Rows.laid_marionette_comp_operators) :: rest) W) : TabC W 0 opsT := by
  have hr := rows_of_head (k := .i64) (rows := opRows) gO yO Tryd.underlying45 Tryd.underlying44 Tryd.underlying3 cells3 cells44 cells45 h
  intro i hi
  have hi32 : i < 32 := hi
  have hz : ∀ q, q < 4 → ∃ zs, opRows[q]? = some zs := fun q hq => ⟨opRows[q]'hq, List.getElem?_eq_getElem hq⟩
  obtain ⟨zs, hzs⟩ := hz (i / 8) (by omega)
  have h1 := hr (i / 8) zs hzs (i % 8) (by omega)
  rw [show i / 8 * 8 + i % 8 = i by omega] at h1
  rw [h1]
  have hall : ∀ i, i < 32 → (((opRows.getD (i / 8) []).map fun z => z)[i % 8]?) = some (opsT.getD i 0) := by decide
  have h2 := hall i hi32
  have h3 : opRows.getD (i / 8) [] = zs := by simp [List.getD, hzs]
  rw [h3] at h2
  simp only [List.map_id'] at h2
  simp [h2]
theorem tabR_of {W : World} {rest : List (String × DataW Unit)} (h : laidMet Tryd.prog (("marionette/comp.reckoners", Rows.laid_marionette_comp_reckoners) :: rest) W) : TabC W 12 recT := fun i hi =>
  (Lib.tabIs_of_head (k := .i64) (zs := recT) gR yR Tryd.underlying44 Tryd.underlying3 cells3 cells44 h).cell gR i hi
def laidC : List (String × DataW Unit) := [("marionette/comp.operators", Rows.laid_marionette_comp_operators), ("marionette/comp.reckoners", Rows.laid_marionette_comp_reckoners)]
/-- The condition gives the arrays. -/
theorem of_laidC {W : World} (h : laidMetH Tryd.prog laidC W) : TabsC W := by
  rw [MakeChecks.laidMetH_plain _ _ _ (by kernel_rfl)] at h
  exact ⟨tabO_of h, tabR_of h.tail⟩
set_option maxRecDepth 100000 in
/-- The door's own heap meets the condition. -/
theorem door_metC (os : Os) (args : Array Value) : laidMetH Tryd.prog laidC ((World.doorLaid Tryd.prog 117 os).forCall (fun _ _ => 0) ⟨#[], args, []⟩).memory :=
  laidMetH_of_parts3 (fuel := 8) (laidMet_of_run' 8 (by kernel_rfl) (by kernel_rfl)) (by kernel_rfl) (by kernel_rfl)
theorem u16_bd (a : Int) (h : (Lit.int .u16 a).wf = true) : 0 ≤ a ∧ a < 65536 := by
  simp only [Lit.wf, Bool.and_eq_true, decide_eq_true_eq] at h
  have h1 : IntKind.u16.min = 0 := rfl
  have h2 : IntKind.u16.max = 65535 := rfl
  omega
theorem u8_bd (a : Int) (h : (Lit.int .u8 a).wf = true) : 0 ≤ a ∧ a < 256 := by
  simp only [Lit.wf, Bool.and_eq_true, decide_eq_true_eq] at h
  have h1 : IntKind.u8.min = 0 := rfl
  have h2 : IntKind.u8.max = 255 := rfl
  omega
end Go.Proofs.YtfkecgidjicidaaDoor
