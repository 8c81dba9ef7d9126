/-
  What the listed variables hold, when the law is called; a start that meets it.
-/
import Derived.Test.YtionnhjldcpmjaaGreatDoorAsmB
import Derived.Test.YtionnhjldcpmjaaGreatDoorShelf
import Derived.Test.YtionnhjldcpmjaaGreatDoorRows
import Derived.ProofKit
import Derived.LaidMore
import Derived.OpenShut
import Derived.Stop.Joined
import Derived.Stop.LaidErr
import Derived.Lib.LaidTab
import Derived.Deep.Fields
import Derived.HandedShaped
import Derived.LaidLaws
set_option linter.unusedVariables false
set_option linter.unusedSimpArgs false
namespace Go.Proofs.YtionnhjldcpmjaaGreatDoor
open Go.RowKit

open Go.ChangeShapes Go.WideShapes Go.ChangeAt
theorem own : ownKnob Tryz.prog.godebug = none := by kernel_rfl
def laidA : List (String × DataW Unit) := [("math/bits.deBruijn32tab", Rows.laid_math_bits_deBruijn32tab), ("math/bits.deBruijn64tab", Rows.laid_math_bits_deBruijn64tab), ("internal/strconv.uint64pow10", Rows.laid_internal_strconv_uint64pow10), ("marionette/inst.jumps", Rows.laid_marionette_inst_jumps), ("marionette/inst.branches", Rows.laid_marionette_inst_branches), ("marionette/inst.loads", Rows.laid_marionette_inst_loads), ("marionette/inst.stores", Rows.laid_marionette_inst_stores), ("marionette/inst.immediates", Rows.laid_marionette_inst_immediates), ("marionette/inst.shifts", Rows.laid_marionette_inst_shifts), ("marionette/inst.otherShifts", Rows.laid_marionette_inst_otherShifts), ("marionette/inst.plain", Rows.laid_marionette_inst_plain), ("marionette/inst.otherPlain", Rows.laid_marionette_inst_otherPlain), ("marionette/inst.products", Rows.laid_marionette_inst_products), ("marionette/inst.narrowImmediates", Rows.laid_marionette_inst_narrowImmediates), ("marionette/inst.narrowShifts", Rows.laid_marionette_inst_narrowShifts), ("marionette/inst.otherNarrowShifts", Rows.laid_marionette_inst_otherNarrowShifts), ("marionette/inst.narrowPlain", Rows.laid_marionette_inst_narrowPlain), ("marionette/inst.otherNarrowPlain", Rows.laid_marionette_inst_otherNarrowPlain), ("marionette/inst.narrowProducts", Rows.laid_marionette_inst_narrowProducts), ("marionette/inst.fences", Rows.laid_marionette_inst_fences), ("marionette/inst.atomicWords", Rows.laid_marionette_inst_atomicWords), ("marionette/inst.atomicDoubles", Rows.laid_marionette_inst_atomicDoubles), ("strconv.ErrRange", Rows.laid_strconv_ErrRange), ("strconv.ErrSyntax", Rows.laid_strconv_ErrSyntax), ("marionette/asm.errText", Rows.laid_marionette_asm_errText), ("marionette/asm.orders", Rows.laid_marionette_asm_orders)]
theorem cells3 : Tryz.prog.cellsOf 3 = 1 := by kernel_rfl
theorem cells9 : Tryz.prog.cellsOf 9 = 1 := by kernel_rfl
theorem cells99 : Tryz.prog.cellsOf 99 = 8 := by kernel_rfl
theorem cells126 : Tryz.prog.cellsOf 126 = 32 := by kernel_rfl
theorem cells145 : Tryz.prog.cellsOf 145 = 20 := by kernel_rfl
theorem cells54 : Tryz.prog.cellsOf 54 = 4 := by kernel_rfl
theorem cells155 : Tryz.prog.cellsOf 155 = 1 := by kernel_rfl
theorem cellsU : Tryz.prog.cellsOf 42 = 1 := by kernel_rfl
/-- An array of texts that reads as these holds them, cell for cell. -/
theorem cells_of_strs {H : Type} {enc : TypeId × Value → H} {P : Program} {w : World} {base : Nat} {sp : Nat → Bool} {held : Bool} {fuel : Nat} {t e : TypeId} {n : Nat} {cs : List Value} {zs : List (List UInt8)} {p : List MemPlace}
    (ht : P.underlying t = some (.array n e)) (he : P.underlying e = some .string) (hce : P.cellsOf e = 1) (hct : P.cellsOf t = n)
    (h : DataW.trod enc P w base sp held fuel t cs = some (.agg (zs.map fun z => .lit (.string z)), p)) : cs = zs.map fun z => str z := by
  cases fuel with
  | zero => simp [DataW.trod] at h
  | succ fuel =>
    simp only [DataW.trod, ht, hce, hct, Nat.mul_one] at h
    split at h
    · rename_i hl
      obtain ⟨xs, hm, hx⟩ := Option.map_eq_some_iff.1 h
      have hxs : xs.map (·.1) = zs.map fun z => (DataW.lit (.string z) : DataW H) := by
        have := congrArg Prod.fst hx
        simpa using this
      have hxl : xs.length = n := by simpa using Lib.mapM_length hm
      have hzl : zs.length = n := by
        have := congrArg List.length hxs
        simp at this
        omega
      apply List.ext_getElem?
      intro i
      by_cases hi : i < n
      · obtain ⟨b, hb, hf⟩ := Lib.mapM_at hm i i (by simp [hi])
        obtain ⟨z, hc, rfl, _⟩ := DataW.trod_string he hf
        have h1 : cs[i]? = some (.string z) := by
          have := congrArg (·[0]?) hc
          simpa [List.getElem?_take, List.getElem?_drop] using this
        have h2 : (xs.map (·.1))[i]? = some (DataW.lit (.string z.data.toList) : DataW H) := by simp [hb]
        rw [hxs] at h2
        simp only [List.getElem?_map, Option.map_eq_some_iff, DataW.lit.injEq, Lit.string.injEq] at h2
        obtain ⟨z', hz', h3⟩ := h2
        subst h3
        simp [h1, hz']
      · rw [List.getElem?_eq_none (by omega), List.getElem?_eq_none (by simp; omega)]
    · cases h
theorem strs_of_head {P : Program} {W : World} {name : String} {zs : List (List UInt8)} {rest : List (String × DataW Unit)} {g : Nat} {t e : TypeId} {n : Nat}
    (hg : P.globalNamed name = some g) (hty : (P.globals[g]?).map (·.type) = some t) (ht : P.underlying t = some (.array n e)) (he : P.underlying e = some .string) (hce : P.cellsOf e = 1) (hct : P.cellsOf t = n)
    (h : laidMet P ((name, .agg (zs.map fun z => .lit (.string z))) :: rest) W) : ∀ i, W.cell? ⟨g, i, none⟩ = (zs.map fun z => str z)[i]? := by
  obtain ⟨ps, ⟨g', t', cs, fuel, p, q, hg', ht', hvar, hd, _, _⟩, _⟩ := h
  obtain rfl := Option.some.inj (hg.symm.trans hg')
  obtain rfl := Option.some.inj (hty.symm.trans ht')
  intro i
  have h1 := cells_of_strs ht he hce hct hd
  rw [World.var?_cell hg hvar i, ← h1]
  simp
theorem gA22 : Tryz.prog.globalNamed "internal/strconv.uint64pow10" = some 22 := by kernel_rfl
theorem yA22 : (Tryz.prog.globals[22]?).map (·.type) = some 145 := by kernel_rfl
theorem gA2 : Tryz.prog.globalNamed "marionette/inst.jumps" = some 2 := by kernel_rfl
theorem yA2 : (Tryz.prog.globals[2]?).map (·.type) = some 99 := by kernel_rfl
theorem gA3 : Tryz.prog.globalNamed "marionette/inst.branches" = some 3 := by kernel_rfl
theorem yA3 : (Tryz.prog.globals[3]?).map (·.type) = some 99 := by kernel_rfl
theorem gA4 : Tryz.prog.globalNamed "marionette/inst.loads" = some 4 := by kernel_rfl
theorem yA4 : (Tryz.prog.globals[4]?).map (·.type) = some 99 := by kernel_rfl
theorem gA5 : Tryz.prog.globalNamed "marionette/inst.stores" = some 5 := by kernel_rfl
theorem yA5 : (Tryz.prog.globals[5]?).map (·.type) = some 99 := by kernel_rfl
theorem gA13 : Tryz.prog.globalNamed "marionette/inst.immediates" = some 13 := by kernel_rfl
theorem yA13 : (Tryz.prog.globals[13]?).map (·.type) = some 99 := by kernel_rfl
theorem gA14 : Tryz.prog.globalNamed "marionette/inst.shifts" = some 14 := by kernel_rfl
theorem yA14 : (Tryz.prog.globals[14]?).map (·.type) = some 99 := by kernel_rfl
theorem gA15 : Tryz.prog.globalNamed "marionette/inst.otherShifts" = some 15 := by kernel_rfl
theorem yA15 : (Tryz.prog.globals[15]?).map (·.type) = some 99 := by kernel_rfl
theorem gA6 : Tryz.prog.globalNamed "marionette/inst.plain" = some 6 := by kernel_rfl
theorem yA6 : (Tryz.prog.globals[6]?).map (·.type) = some 99 := by kernel_rfl
theorem gA7 : Tryz.prog.globalNamed "marionette/inst.otherPlain" = some 7 := by kernel_rfl
theorem yA7 : (Tryz.prog.globals[7]?).map (·.type) = some 99 := by kernel_rfl
theorem gA8 : Tryz.prog.globalNamed "marionette/inst.products" = some 8 := by kernel_rfl
theorem yA8 : (Tryz.prog.globals[8]?).map (·.type) = some 99 := by kernel_rfl
theorem gA16 : Tryz.prog.globalNamed "marionette/inst.narrowImmediates" = some 16 := by kernel_rfl
theorem yA16 : (Tryz.prog.globals[16]?).map (·.type) = some 99 := by kernel_rfl
theorem gA17 : Tryz.prog.globalNamed "marionette/inst.narrowShifts" = some 17 := by kernel_rfl
theorem yA17 : (Tryz.prog.globals[17]?).map (·.type) = some 99 := by kernel_rfl
theorem gA18 : Tryz.prog.globalNamed "marionette/inst.otherNarrowShifts" = some 18 := by kernel_rfl
theorem yA18 : (Tryz.prog.globals[18]?).map (·.type) = some 99 := by kernel_rfl
theorem gA9 : Tryz.prog.globalNamed "marionette/inst.narrowPlain" = some 9 := by kernel_rfl
theorem yA9 : (Tryz.prog.globals[9]?).map (·.type) = some 99 := by kernel_rfl
theorem gA10 : Tryz.prog.globalNamed "marionette/inst.otherNarrowPlain" = some 10 := by kernel_rfl
theorem yA10 : (Tryz.prog.globals[10]?).map (·.type) = some 99 := by kernel_rfl
theorem gA11 : Tryz.prog.globalNamed "marionette/inst.narrowProducts" = some 11 := by kernel_rfl
theorem yA11 : (Tryz.prog.globals[11]?).map (·.type) = some 99 := by kernel_rfl
theorem gA12 : Tryz.prog.globalNamed "marionette/inst.fences" = some 12 := by kernel_rfl
theorem yA12 : (Tryz.prog.globals[12]?).map (·.type) = some 99 := by kernel_rfl
theorem gA19 : Tryz.prog.globalNamed "marionette/inst.atomicWords" = some 19 := by kernel_rfl
theorem yA19 : (Tryz.prog.globals[19]?).map (·.type) = some 126 := by kernel_rfl
theorem gA20 : Tryz.prog.globalNamed "marionette/inst.atomicDoubles" = some 20 := by kernel_rfl
theorem yA20 : (Tryz.prog.globals[20]?).map (·.type) = some 126 := by kernel_rfl
theorem gA24 : Tryz.prog.globalNamed "strconv.ErrRange" = some 24 := by kernel_rfl
theorem yA24 : (Tryz.prog.globals[24]?).map (·.type) = some 62 := by kernel_rfl
theorem gA23 : Tryz.prog.globalNamed "strconv.ErrSyntax" = some 23 := by kernel_rfl
theorem yA23 : (Tryz.prog.globals[23]?).map (·.type) = some 62 := by kernel_rfl
theorem gA1 : Tryz.prog.globalNamed "marionette/asm.errText" = some 1 := by kernel_rfl
theorem yA1 : (Tryz.prog.globals[1]?).map (·.type) = some 62 := by kernel_rfl
theorem gA0 : Tryz.prog.globalNamed "marionette/asm.orders" = some 0 := by kernel_rfl
theorem yA0 : (Tryz.prog.globals[0]?).map (·.type) = some 54 := by kernel_rfl
theorem star_eq : "*" ++ "errors.errorString" = "*errors.errorString" := by decide
theorem rowE : ∀ u, Tryz.prog.typeName? 3 u = some "*errors.errorString" → u = 153 := fun u h => typeName_ptr_named (nm := "errors.errorString") (by rw [star_eq]; kernel_rfl) (by kernel_rfl) (by decide) u (by rw [star_eq]; exact h)
/-- The condition gives what the variables hold. -/
theorem of_laidA {W : World} (h : laidMetH Tryz.prog laidA W) (hm : ∃ m, W.cell? ⟨21, 0, none⟩ = some (.int .i64 m)) : ∃ a, Env a W := by
  rw [MakeChecks.laidMetH_plain _ _ _ (by kernel_rfl)] at h
  replace h := h.tail
  replace h := h.tail
  have mp : Lib.TabIs Tryz.prog W "internal/strconv.uint64pow10" .u64 Lib.pow10Tab := Lib.tabIs_of_head (k := .u64) (zs := Lib.pow10Tab) gA22 yA22 Tryz.underlying145 Tryz.underlying42 cellsU cells145 h
  replace h := h.tail
  have m2 : Tab W 2 [4, 0, 0, 0, 0, 0, 0, 0] := fun i hi => (Lib.tabIs_of_head (k := .i64) (zs := [4, 0, 0, 0, 0, 0, 0, 0]) gA2 yA2 Tryz.underlying99 Tryz.underlying3 cells3 cells99 h).cell gA2 i hi
  replace h := h.tail
  have m3 : Tab W 3 [5, 6, 0, 0, 7, 8, 9, 10] := fun i hi => (Lib.tabIs_of_head (k := .i64) (zs := [5, 6, 0, 0, 7, 8, 9, 10]) gA3 yA3 Tryz.underlying99 Tryz.underlying3 cells3 cells99 h).cell gA3 i hi
  replace h := h.tail
  have m4 : Tab W 4 [11, 12, 13, 14, 15, 16, 17, 0] := fun i hi => (Lib.tabIs_of_head (k := .i64) (zs := [11, 12, 13, 14, 15, 16, 17, 0]) gA4 yA4 Tryz.underlying99 Tryz.underlying3 cells3 cells99 h).cell gA4 i hi
  replace h := h.tail
  have m5 : Tab W 5 [18, 19, 20, 21, 0, 0, 0, 0] := fun i hi => (Lib.tabIs_of_head (k := .i64) (zs := [18, 19, 20, 21, 0, 0, 0, 0]) gA5 yA5 Tryz.underlying99 Tryz.underlying3 cells3 cells99 h).cell gA5 i hi
  replace h := h.tail
  have m13 : Tab W 13 [22, 0, 23, 24, 25, 0, 26, 27] := fun i hi => (Lib.tabIs_of_head (k := .i64) (zs := [22, 0, 23, 24, 25, 0, 26, 27]) gA13 yA13 Tryz.underlying99 Tryz.underlying3 cells3 cells99 h).cell gA13 i hi
  replace h := h.tail
  have m14 : Tab W 14 [0, 28, 0, 0, 0, 29, 0, 0] := fun i hi => (Lib.tabIs_of_head (k := .i64) (zs := [0, 28, 0, 0, 0, 29, 0, 0]) gA14 yA14 Tryz.underlying99 Tryz.underlying3 cells3 cells99 h).cell gA14 i hi
  replace h := h.tail
  have m15 : Tab W 15 [0, 0, 0, 0, 0, 30, 0, 0] := fun i hi => (Lib.tabIs_of_head (k := .i64) (zs := [0, 0, 0, 0, 0, 30, 0, 0]) gA15 yA15 Tryz.underlying99 Tryz.underlying3 cells3 cells99 h).cell gA15 i hi
  replace h := h.tail
  have m6 : Tab W 6 [31, 33, 34, 35, 36, 37, 39, 40] := fun i hi => (Lib.tabIs_of_head (k := .i64) (zs := [31, 33, 34, 35, 36, 37, 39, 40]) gA6 yA6 Tryz.underlying99 Tryz.underlying3 cells3 cells99 h).cell gA6 i hi
  replace h := h.tail
  have m7 : Tab W 7 [32, 0, 0, 0, 0, 38, 0, 0] := fun i hi => (Lib.tabIs_of_head (k := .i64) (zs := [32, 0, 0, 0, 0, 38, 0, 0]) gA7 yA7 Tryz.underlying99 Tryz.underlying3 cells3 cells99 h).cell gA7 i hi
  replace h := h.tail
  have m8 : Tab W 8 [50, 51, 52, 53, 54, 55, 56, 57] := fun i hi => (Lib.tabIs_of_head (k := .i64) (zs := [50, 51, 52, 53, 54, 55, 56, 57]) gA8 yA8 Tryz.underlying99 Tryz.underlying3 cells3 cells99 h).cell gA8 i hi
  replace h := h.tail
  have m16 : Tab W 16 [41, 0, 0, 0, 0, 0, 0, 0] := fun i hi => (Lib.tabIs_of_head (k := .i64) (zs := [41, 0, 0, 0, 0, 0, 0, 0]) gA16 yA16 Tryz.underlying99 Tryz.underlying3 cells3 cells99 h).cell gA16 i hi
  replace h := h.tail
  have m17 : Tab W 17 [0, 42, 0, 0, 0, 43, 0, 0] := fun i hi => (Lib.tabIs_of_head (k := .i64) (zs := [0, 42, 0, 0, 0, 43, 0, 0]) gA17 yA17 Tryz.underlying99 Tryz.underlying3 cells3 cells99 h).cell gA17 i hi
  replace h := h.tail
  have m18 : Tab W 18 [0, 0, 0, 0, 0, 44, 0, 0] := fun i hi => (Lib.tabIs_of_head (k := .i64) (zs := [0, 0, 0, 0, 0, 44, 0, 0]) gA18 yA18 Tryz.underlying99 Tryz.underlying3 cells3 cells99 h).cell gA18 i hi
  replace h := h.tail
  have m9 : Tab W 9 [45, 47, 0, 0, 0, 48, 0, 0] := fun i hi => (Lib.tabIs_of_head (k := .i64) (zs := [45, 47, 0, 0, 0, 48, 0, 0]) gA9 yA9 Tryz.underlying99 Tryz.underlying3 cells3 cells99 h).cell gA9 i hi
  replace h := h.tail
  have m10 : Tab W 10 [46, 0, 0, 0, 0, 49, 0, 0] := fun i hi => (Lib.tabIs_of_head (k := .i64) (zs := [46, 0, 0, 0, 0, 49, 0, 0]) gA10 yA10 Tryz.underlying99 Tryz.underlying3 cells3 cells99 h).cell gA10 i hi
  replace h := h.tail
  have m11 : Tab W 11 [58, 0, 0, 0, 59, 60, 61, 62] := fun i hi => (Lib.tabIs_of_head (k := .i64) (zs := [58, 0, 0, 0, 59, 60, 61, 62]) gA11 yA11 Tryz.underlying99 Tryz.underlying3 cells3 cells99 h).cell gA11 i hi
  replace h := h.tail
  have m12 : Tab W 12 [85, 86, 0, 0, 0, 0, 0, 0] := fun i hi => (Lib.tabIs_of_head (k := .i64) (zs := [85, 86, 0, 0, 0, 0, 0, 0]) gA12 yA12 Tryz.underlying99 Tryz.underlying3 cells3 cells99 h).cell gA12 i hi
  replace h := h.tail
  have m19 : Tab W 19 [66, 65, 63, 64, 67, 0, 0, 0, 69, 0, 0, 0, 68, 0, 0, 0, 70, 0, 0, 0, 71, 0, 0, 0, 72, 0, 0, 0, 73, 0, 0, 0] := fun i hi => (Lib.tabIs_of_head (k := .i64) (zs := [66, 65, 63, 64, 67, 0, 0, 0, 69, 0, 0, 0, 68, 0, 0, 0, 70, 0, 0, 0, 71, 0, 0, 0, 72, 0, 0, 0, 73, 0, 0, 0]) gA19 yA19 Tryz.underlying126 Tryz.underlying3 cells3 cells126 h).cell gA19 i hi
  replace h := h.tail
  have m20 : Tab W 20 [77, 76, 74, 75, 78, 0, 0, 0, 80, 0, 0, 0, 79, 0, 0, 0, 81, 0, 0, 0, 82, 0, 0, 0, 83, 0, 0, 0, 84, 0, 0, 0] := fun i hi => (Lib.tabIs_of_head (k := .i64) (zs := [77, 76, 74, 75, 78, 0, 0, 0, 80, 0, 0, 0, 79, 0, 0, 0, 81, 0, 0, 0, 82, 0, 0, 0, 83, 0, 0, 0, 84, 0, 0, 0]) gA20 yA20 Tryz.underlying126 Tryz.underlying3 cells3 cells126 h).cell gA20 i hi
  replace h := h.tail
  obtain ⟨a24, s24, v24, c24, t24, z24⟩ := laid_sentinel h gA24 yA24 Tryz.underlying62 rowE Tryz.underlying153 Tryz.underlying155 rfl rfl Tryz.underlying9 cells155 cells9
  replace h := h.tail
  obtain ⟨a23, s23, v23, c23, t23, z23⟩ := laid_sentinel h gA23 yA23 Tryz.underlying62 rowE Tryz.underlying153 Tryz.underlying155 rfl rfl Tryz.underlying9 cells155 cells9
  replace h := h.tail
  obtain ⟨a1, s1, v1, c1, t1, z1⟩ := laid_sentinel h gA1 yA1 Tryz.underlying62 rowE Tryz.underlying153 Tryz.underlying155 rfl rfl Tryz.underlying9 cells155 cells9
  replace h := h.tail
  have mo := strs_of_head (zs := ordT) gA0 yA0 Tryz.underlying54 Tryz.underlying9 cells9 cells54 h
  refine ⟨a1, ⟨m2, m3, m4, m5, m6, m7, m8, m9, m10, m11, m12, m13, m14, m15, m16, m17, m18, m19, m20⟩, mo 0, mo 1, mo 2, mo 3, World.var?_cell gA1 v1 0, Lib.tabBelow_of_tabIs mp, hm, ⟨_, _, World.var?_cell gA23 v23 0⟩, ⟨_, _, World.var?_cell gA24 v24 0⟩⟩
set_option maxRecDepth 100000 in
/-- The door's own heap meets the condition. -/
theorem door_metA (os : Os) (args : Array Value) : laidMetH Tryz.prog laidA ((World.doorLaid Tryz.prog 181 os).forCall (fun _ _ => 0) ⟨#[], args, []⟩).memory :=
  laidMetH_of_parts3 (fuel := 8) (laidMet_of_run' 8 (by kernel_rfl) (by kernel_rfl)) (by kernel_rfl) (by kernel_rfl)

end Go.Proofs.YtionnhjldcpmjaaGreatDoor
