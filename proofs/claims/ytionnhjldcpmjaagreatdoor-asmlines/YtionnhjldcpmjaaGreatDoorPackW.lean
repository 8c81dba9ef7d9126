/-
  What the listed variables hold, when the law is called; a start that meets it.
  The frame of the laws: their arguments, and what they may lean on.
  Lines that have ended; rows of numbers.
-/
import Derived.Test.YtionnhjldcpmjaaGreatDoorAsmB
import Derived.Test.YtionnhjldcpmjaaGreatDoorShelf
import Derived.Test.YtionnhjldcpmjaaGreatDoorRows
import Derived.ProofKit
import Derived.LaidMore
import Derived.OpenShut
import Derived.Stop.Joined
import Derived.Stop.LaidErr
import Derived.Lib.LaidTab
import Derived.Deep.Fields
import Derived.HandedShaped
import Derived.LaidLaws
import Derived.Test.YtionnhjldcpmjaaGreatDoorPackK
import Derived.ShutString
import Derived.Test.YtionnhjldcpmjaaGreatDoorPackI
set_option linter.unusedVariables false
set_option linter.unusedSimpArgs false
namespace Go.Proofs.YtionnhjldcpmjaaGreatDoor
open Go.RowKit

open Go.ChangeShapes Go.WideShapes Go.ChangeAt
theorem own : ownKnob Tryz.prog.godebug = none := by kernel_rfl
def laidA : List (String × DataW Unit) := [("math/bits.deBruijn32tab", Rows.laid_math_bits_deBruijn32tab), ("math/bits.deBruijn64tab", Rows.laid_math_bits_deBruijn64tab), ("internal/strconv.uint64pow10", Rows.laid_internal_strconv_uint64pow10), ("marionette/inst.jumps", Rows.laid_marionette_inst_jumps), ("marionette/inst.branches", Rows.laid_marionette_inst_branches), ("marionette/inst.loads", Rows.laid_marionette_inst_loads), ("marionette/inst.stores", Rows.laid_marionette_inst_stores), ("marionette/inst.immediates", Rows.laid_marionette_inst_immediates), ("marionette/inst.shifts", Rows.laid_marionette_inst_shifts), ("marionette/inst.otherShifts", Rows.laid_marionette_inst_otherShifts), ("marionette/inst.plain", Rows.laid_marionette_inst_plain), ("marionette/inst.otherPlain", Rows.laid_marionette_inst_otherPlain), ("marionette/inst.products", Rows.laid_marionette_inst_products), ("marionette/inst.narrowImmediates", Rows.laid_marionette_inst_narrowImmediates), ("marionette/inst.narrowShifts", Rows.laid_marionette_inst_narrowShifts), ("marionette/inst.otherNarrowShifts", Rows.laid_marionette_inst_otherNarrowShifts), ("marionette/inst.narrowPlain", Rows.laid_marionette_inst_narrowPlain), ("marionette/inst.otherNarrowPlain", Rows.laid_marionette_inst_otherNarrowPlain), ("marionette/inst.narrowProducts", Rows.laid_marionette_inst_narrowProducts), ("marionette/inst.fences", Rows.laid_marionette_inst_fences), ("marionette/inst.atomicWords", Rows.laid_marionette_inst_atomicWords), ("marionette/inst.atomicDoubles", Rows.laid_marionette_inst_atomicDoubles), ("strconv.ErrRange", Rows.laid_strconv_ErrRange), ("strconv.ErrSyntax", Rows.laid_strconv_ErrSyntax), ("marionette/asm.errText", Rows.laid_marionette_asm_errText), ("marionette/asm.orders", Rows.laid_marionette_asm_orders)]
theorem cells3 : Tryz.prog.cellsOf 3 = 1 := by kernel_rfl
theorem cells9 : Tryz.prog.cellsOf 9 = 1 := by kernel_rfl
theorem cells99 : Tryz.prog.cellsOf 99 = 8 := by kernel_rfl
theorem cells126 : Tryz.prog.cellsOf 126 = 32 := by kernel_rfl
theorem cells145 : Tryz.prog.cellsOf 145 = 20 := by kernel_rfl
theorem cells54 : Tryz.prog.cellsOf 54 = 4 := by kernel_rfl
theorem cells155 : Tryz.prog.cellsOf 155 = 1 := by kernel_rfl
theorem cellsU : Tryz.prog.cellsOf 42 = 1 := by kernel_rfl
/-- An array of texts that reads as these holds them, cell for cell. -/
theorem cells_of_strs {H : Type} {enc : TypeId × Value → H} {P : Program} {w : World} {base : Nat} {sp : Nat → Bool} {held : Bool} {fuel : Nat} {t e : TypeId} {n : Nat} {cs : List Value} {zs : List (List UInt8)} {p : List MemPlace}
    (ht : P.underlying t = some (.array n e)) (he : P.underlying e = some .string) (hce : P.cellsOf e = 1) (hct : P.cellsOf t = n)
    (h : DataW.trod enc P w base sp held fuel t cs = some (.agg (zs.map fun z => .lit (.string z)), p)) : cs = zs.map fun z => str z := by
  cases fuel with
  | zero => simp [DataW.trod] at h
  | succ fuel =>
    simp only [DataW.trod, ht, hce, hct, Nat.mul_one] at h
    split at h
    · rename_i hl
      obtain ⟨xs, hm, hx⟩ := Option.map_eq_some_iff.1 h
      have hxs : xs.map (·.1) = zs.map fun z => (DataW.lit (.string z) : DataW H) := by
        have := congrArg Prod.fst hx
        simpa using this
      have hxl : xs.length = n := by simpa using Lib.mapM_length hm
      have hzl : zs.length = n := by
        have := congrArg List.length hxs
        simp at this
        omega
      apply List.ext_getElem?
      intro i
      by_cases hi : i < n
      · obtain ⟨b, hb, hf⟩ := Lib.mapM_at hm i i (by simp [hi])
        obtain ⟨z, hc, rfl, _⟩ := DataW.trod_string he hf
        have h1 : cs[i]? = some (.string z) := by
          have := congrArg (·[0]?) hc
          simpa [List.getElem?_take, List.getElem?_drop] using this
        have h2 : (xs.map (·.1))[i]? = some (DataW.lit (.string z.data.toList) : DataW H) := by simp [hb]
        rw [hxs] at h2
        simp only [List.getElem?_map, Option.map_eq_some_iff, DataW.lit.injEq, Lit.string.injEq] at h2
        obtain ⟨z', hz', h3⟩ := h2
        subst h3
        simp [h1, hz']
      · rw [List.getElem?_eq_none (by omega), List.getElem?_eq_none (by simp; omega)]
    · cases h
theorem strs_of_head {P : Program} {W : World} {name : String} {zs : List (List UInt8)} {rest : List (String × DataW Unit)} {g : Nat} {t e : TypeId} {n : Nat}
    (hg : P.globalNamed name = some g) (hty : (P.globals[g]?).map (·.type) = some t) (ht : P.underlying t = some (.array n e)) (he : P.underlying e = some .string) (hce : P.cellsOf e = 1) (hct : P.cellsOf t = n)
    (h : laidMet P ((name, .agg (zs.map fun z => .lit (.string z))) :: rest) W) : ∀ i, W.cell? ⟨g, i, none⟩ = (zs.map fun z => str z)[i]? := by
  obtain ⟨ps, ⟨g', t', cs, fuel, p, q, hg', ht', hvar, hd, _, _⟩, _⟩ := h
  obtain rfl := Option.some.inj (hg.symm.trans hg')
  obtain rfl := Option.some.inj (hty.symm.trans ht')
  intro i
  have h1 := cells_of_strs ht he hce hct hd
  rw [World.var?_cell hg hvar i, ← h1]
  simp
theorem gA22 : Tryz.prog.globalNamed "internal/strconv.uint64pow10" = some 22 := by kernel_rfl
theorem yA22 : (Tryz.prog.globals[22]?).map (·.type) = some 145 := by kernel_rfl
theorem gA2 : Tryz.prog.globalNamed "marionette/inst.jumps" = some 2 := by kernel_rfl
theorem yA2 : (Tryz.prog.globals[2]?).map (·.type) = some 99 := by kernel_rfl
theorem gA3 : Tryz.prog.globalNamed "marionette/inst.branches" = some 3 := by kernel_rfl
theorem yA3 : (Tryz.prog.globals[3]?).map (·.type) = some 99 := by kernel_rfl
theorem gA4 : Tryz.prog.globalNamed "marionette/inst.loads" = some 4 := by kernel_rfl
theorem yA4 : (Tryz.prog.globals[4]?).map (·.type) = some 99 := by kernel_rfl
theorem gA5 : Tryz.prog.globalNamed "marionette/inst.stores" = some 5 := by kernel_rfl
theorem yA5 : (Tryz.prog.globals[5]?).map (·.type) = some 99 := by kernel_rfl
theorem gA13 : Tryz.prog.globalNamed "marionette/inst.immediates" = some 13 := by kernel_rfl
theorem yA13 : (Tryz.prog.globals[13]?).map (·.type) = some 99 := by kernel_rfl
theorem gA14 : Tryz.prog.globalNamed "marionette/inst.shifts" = some 14 := by kernel_rfl
theorem yA14 : (Tryz.prog.globals[14]?).map (·.type) = some 99 := by kernel_rfl
theorem gA15 : Tryz.prog.globalNamed "marionette/inst.otherShifts" = some 15 := by kernel_rfl
theorem yA15 : (Tryz.prog.globals[15]?).map (·.type) = some 99 := by kernel_rfl
theorem gA6 : Tryz.prog.globalNamed "marionette/inst.plain" = some 6 := by kernel_rfl
theorem yA6 : (Tryz.prog.globals[6]?).map (·.type) = some 99 := by kernel_rfl
theorem gA7 : Tryz.prog.globalNamed "marionette/inst.otherPlain" = some 7 := by kernel_rfl
theorem yA7 : (Tryz.prog.globals[7]?).map (·.type) = some 99 := by kernel_rfl
theorem gA8 : Tryz.prog.globalNamed "marionette/inst.products" = some 8 := by kernel_rfl
theorem yA8 : (Tryz.prog.globals[8]?).map (·.type) = some 99 := by kernel_rfl
theorem gA16 : Tryz.prog.globalNamed "marionette/inst.narrowImmediates" = some 16 := by kernel_rfl
theorem yA16 : (Tryz.prog.globals[16]?).map (·.type) = some 99 := by kernel_rfl
theorem gA17 : Tryz.prog.globalNamed "marionette/inst.narrowShifts" = some 17 := by kernel_rfl
theorem yA17 : (Tryz.prog.globals[17]?).map (·.type) = some 99 := by kernel_rfl
theorem gA18 : Tryz.prog.globalNamed "marionette/inst.otherNarrowShifts" = some 18 := by kernel_rfl
theorem yA18 : (Tryz.prog.globals[18]?).map (·.type) = some 99 := by kernel_rfl
theorem gA9 : Tryz.prog.globalNamed "marionette/inst.narrowPlain" = some 9 := by kernel_rfl
theorem yA9 : (Tryz.prog.globals[9]?).map (·.type) = some 99 := by kernel_rfl
theorem gA10 : Tryz.prog.globalNamed "marionette/inst.otherNarrowPlain" = some 10 := by kernel_rfl
theorem yA10 : (Tryz.prog.globals[10]?).map (·.type) = some 99 := by kernel_rfl
theorem gA11 : Tryz.prog.globalNamed "marionette/inst.narrowProducts" = some 11 := by kernel_rfl
theorem yA11 : (Tryz.prog.globals[11]?).map (·.type) = some 99 := by kernel_rfl
theorem gA12 : Tryz.prog.globalNamed "marionette/inst.fences" = some 12 := by kernel_rfl
theorem yA12 : (Tryz.prog.globals[12]?).map (·.type) = some 99 := by kernel_rfl
theorem gA19 : Tryz.prog.globalNamed "marionette/inst.atomicWords" = some 19 := by kernel_rfl
theorem yA19 : (Tryz.prog.globals[19]?).map (·.type) = some 126 := by kernel_rfl
theorem gA20 : Tryz.prog.globalNamed "marionette/inst.atomicDoubles" = some 20 := by kernel_rfl
theorem yA20 : (Tryz.prog.globals[20]?).map (·.type) = some 126 := by kernel_rfl
theorem gA24 : Tryz.prog.globalNamed "strconv.ErrRange" = some 24 := by kernel_rfl
theorem yA24 : (Tryz.prog.globals[24]?).map (·.type) = some 62 := by kernel_rfl
theorem gA23 : Tryz.prog.globalNamed "strconv.ErrSyntax" = some 23 := by kernel_rfl
theorem yA23 : (Tryz.prog.globals[23]?).map (·.type) = some 62 := by kernel_rfl
theorem gA1 : Tryz.prog.globalNamed "marionette/asm.errText" = some 1 := by kernel_rfl
theorem yA1 : (Tryz.prog.globals[1]?).map (·.type) = some 62 := by kernel_rfl
theorem gA0 : Tryz.prog.globalNamed "marionette/asm.orders" = some 0 := by kernel_rfl
theorem yA0 : (Tryz.prog.globals[0]?).map (·.type) = some 54 := by kernel_rfl
theorem star_eq : "*" ++ "errors.errorString" = "*errors.errorString" := by decide
theorem rowE : ∀ u, Tryz.prog.typeName? 3 u = some "*errors.errorString" → u = 153 := fun u h => typeName_ptr_named (nm := "errors.errorString") (by rw [star_eq]; kernel_rfl) (by kernel_rfl) (by decide) u (by rw [star_eq]; exact h)
/-- The condition gives what the variables hold. -/
theorem of_laidA {W : World} (h : laidMetH Tryz.prog laidA W) (hm : ∃ m, W.cell? ⟨21, 0, none⟩ = some (.int .i64 m)) : ∃ a, Env a W := by
  rw [MakeChecks.laidMetH_plain _ _ _ (by kernel_rfl)] at h
  replace h := h.tail
  replace h := h.tail
  have mp : Lib.TabIs Tryz.prog W "internal/strconv.uint64pow10" .u64 Lib.pow10Tab := Lib.tabIs_of_head (k := .u64) (zs := Lib.pow10Tab) gA22 yA22 Tryz.underlying145 Tryz.underlying42 cellsU cells145 h
  replace h := h.tail
  have m2 : Tab W 2 [4, 0, 0, 0, 0, 0, 0, 0] := fun i hi => (Lib.tabIs_of_head (k := .i64) (zs := [4, 0, 0, 0, 0, 0, 0, 0]) gA2 yA2 Tryz.underlying99 Tryz.underlying3 cells3 cells99 h).cell gA2 i hi
  replace h := h.tail
  have m3 : Tab W 3 [5, 6, 0, 0, 7, 8, 9, 10] := fun i hi => (Lib.tabIs_of_head (k := .i64) (zs := [5, 6, 0, 0, 7, 8, 9, 10]) gA3 yA3 Tryz.underlying99 Tryz.underlying3 cells3 cells99 h).cell gA3 i hi
  replace h := h.tail
  have m4 : Tab W 4 [11, 12, 13, 14, 15, 16, 17, 0] := fun i hi => (Lib.tabIs_of_head (k := .i64) (zs := [11, 12, 13, 14, 15, 16, 17, 0]) gA4 yA4 Tryz.underlying99 Tryz.underlying3 cells3 cells99 h).cell gA4 i hi
  replace h := h.tail
  have m5 : Tab W 5 [18, 19, 20, 21, 0, 0, 0, 0] := fun i hi => (Lib.tabIs_of_head (k := .i64) (zs := [18, 19, 20, 21, 0, 0, 0, 0]) gA5 yA5 Tryz.underlying99 Tryz.underlying3 cells3 cells99 h).cell gA5 i hi
  replace h := h.tail
  have m13 : Tab W 13 [22, 0, 23, 24, 25, 0, 26, 27] := fun i hi => (Lib.tabIs_of_head (k := .i64) (zs := [22, 0, 23, 24, 25, 0, 26, 27]) gA13 yA13 Tryz.underlying99 Tryz.underlying3 cells3 cells99 h).cell gA13 i hi
  replace h := h.tail
  have m14 : Tab W 14 [0, 28, 0, 0, 0, 29, 0, 0] := fun i hi => (Lib.tabIs_of_head (k := .i64) (zs := [0, 28, 0, 0, 0, 29, 0, 0]) gA14 yA14 Tryz.underlying99 Tryz.underlying3 cells3 cells99 h).cell gA14 i hi
  replace h := h.tail
  have m15 : Tab W 15 [0, 0, 0, 0, 0, 30, 0, 0] := fun i hi => (Lib.tabIs_of_head (k := .i64) (zs := [0, 0, 0, 0, 0, 30, 0, 0]) gA15 yA15 Tryz.underlying99 Tryz.underlying3 cells3 cells99 h).cell gA15 i hi
  replace h := h.tail
  have m6 : Tab W 6 [31, 33, 34, 35, 36, 37, 39, 40] := fun i hi => (Lib.tabIs_of_head (k := .i64) (zs := [31, 33, 34, 35, 36, 37, 39, 40]) gA6 yA6 Tryz.underlying99 Tryz.underlying3 cells3 cells99 h).cell gA6 i hi
  replace h := h.tail
  have m7 : Tab W 7 [32, 0, 0, 0, 0, 38, 0, 0] := fun i hi => (Lib.tabIs_of_head (k := .i64) (zs := [32, 0, 0, 0, 0, 38, 0, 0]) gA7 yA7 Tryz.underlying99 Tryz.underlying3 cells3 cells99 h).cell gA7 i hi
  replace h := h.tail
  have m8 : Tab W 8 [50, 51, 52, 53, 54, 55, 56, 57] := fun i hi => (Lib.tabIs_of_head (k := .i64) (zs := [50, 51, 52, 53, 54, 55, 56, 57]) gA8 yA8 Tryz.underlying99 Tryz.underlying3 cells3 cells99 h).cell gA8 i hi
  replace h := h.tail
  have m16 : Tab W 16 [41, 0, 0, 0, 0, 0, 0, 0] := fun i hi => (Lib.tabIs_of_head (k := .i64) (zs := [41, 0, 0, 0, 0, 0, 0, 0]) gA16 yA16 Tryz.underlying99 Tryz.underlying3 cells3 cells99 h).cell gA16 i hi
  replace h := h.tail
  have m17 : Tab W 17 [0, 42, 0, 0, 0, 43, 0, 0] := fun i hi => (Lib.tabIs_of_head (k := .i64) (zs := [0, 42, 0, 0, 0, 43, 0, 0]) gA17 yA17 Tryz.underlying99 Tryz.underlying3 cells3 cells99 h).cell gA17 i hi
  replace h := h.tail
  have m18 : Tab W 18 [0, 0, 0, 0, 0, 44, 0, 0] := fun i hi => (Lib.tabIs_of_head (k := .i64) (zs := [0, 0, 0, 0, 0, 44, 0, 0]) gA18 yA18 Tryz.underlying99 Tryz.underlying3 cells3 cells99 h).cell gA18 i hi
  replace h := h.tail
  have m9 : Tab W 9 [45, 47, 0, 0, 0, 48, 0, 0] := fun i hi => (Lib.tabIs_of_head (k := .i64) (zs := [45, 47, 0, 0, 0, 48, 0, 0]) gA9 yA9 Tryz.underlying99 Tryz.underlying3 cells3 cells99 h).cell gA9 i hi
  replace h := h.tail
  have m10 : Tab W 10 [46, 0, 0, 0, 0, 49, 0, 0] := fun i hi => (Lib.tabIs_of_head (k := .i64) (zs := [46, 0, 0, 0, 0, 49, 0, 0]) gA10 yA10 Tryz.underlying99 Tryz.underlying3 cells3 cells99 h).cell gA10 i hi
  replace h := h.tail
  have m11 : Tab W 11 [58, 0, 0, 0, 59, 60, 61, 62] := fun i hi => (Lib.tabIs_of_head (k := .i64) (zs := [58, 0, 0, 0, 59, 60, 61, 62]) gA11 yA11 Tryz.underlying99 Tryz.underlying3 cells3 cells99 h).cell gA11 i hi
  replace h := h.tail
  have m12 : Tab W 12 [85, 86, 0, 0, 0, 0, 0, 0] := fun i hi => (Lib.tabIs_of_head (k := .i64) (zs := [85, 86, 0, 0, 0, 0, 0, 0]) gA12 yA12 Tryz.underlying99 Tryz.underlying3 cells3 cells99 h).cell gA12 i hi
  replace h := h.tail
  have m19 : Tab W 19 [66, 65, 63, 64, 67, 0, 0, 0, 69, 0, 0, 0, 68, 0, 0, 0, 70, 0, 0, 0, 71, 0, 0, 0, 72, 0, 0, 0, 73, 0, 0, 0] := fun i hi => (Lib.tabIs_of_head (k := .i64) (zs := [66, 65, 63, 64, 67, 0, 0, 0, 69, 0, 0, 0, 68, 0, 0, 0, 70, 0, 0, 0, 71, 0, 0, 0, 72, 0, 0, 0, 73, 0, 0, 0]) gA19 yA19 Tryz.underlying126 Tryz.underlying3 cells3 cells126 h).cell gA19 i hi
  replace h := h.tail
  have m20 : Tab W 20 [77, 76, 74, 75, 78, 0, 0, 0, 80, 0, 0, 0, 79, 0, 0, 0, 81, 0, 0, 0, 82, 0, 0, 0, 83, 0, 0, 0, 84, 0, 0, 0] := fun i hi => (Lib.tabIs_of_head (k := .i64) (zs := [77, 76, 74, 75, 78, 0, 0, 0, 80, 0, 0, 0, 79, 0, 0, 0, 81, 0, 0, 0, 82, 0, 0, 0, 83, 0, 0, 0, 84, 0, 0, 0]) gA20 yA20 Tryz.underlying126 Tryz.underlying3 cells3 cells126 h).cell gA20 i hi
  replace h := h.tail
  obtain ⟨a24, s24, v24, c24, t24, z24⟩ := laid_sentinel h gA24 yA24 Tryz.underlying62 rowE Tryz.underlying153 Tryz.underlying155 rfl rfl Tryz.underlying9 cells155 cells9
  replace h := h.tail
  obtain ⟨a23, s23, v23, c23, t23, z23⟩ := laid_sentinel h gA23 yA23 Tryz.underlying62 rowE Tryz.underlying153 Tryz.underlying155 rfl rfl Tryz.underlying9 cells155 cells9
  replace h := h.tail
  obtain ⟨a1, s1, v1, c1, t1, z1⟩ := laid_sentinel h gA1 yA1 Tryz.underlying62 rowE Tryz.underlying153 Tryz.underlying155 rfl rfl Tryz.underlying9 cells155 cells9
  replace h := h.tail
  have mo := strs_of_head (zs := ordT) gA0 yA0 Tryz.underlying54 Tryz.underlying9 cells9 cells54 h
  refine ⟨a1, ⟨m2, m3, m4, m5, m6, m7, m8, m9, m10, m11, m12, m13, m14, m15, m16, m17, m18, m19, m20⟩, mo 0, mo 1, mo 2, mo 3, World.var?_cell gA1 v1 0, Lib.tabBelow_of_tabIs mp, hm, ⟨_, _, World.var?_cell gA23 v23 0⟩, ⟨_, _, World.var?_cell gA24 v24 0⟩⟩
set_option maxRecDepth 100000 in
/-- The door's own heap meets the condition. -/
theorem door_metA (os : Os) (args : Array Value) : laidMetH Tryz.prog laidA ((World.doorLaid Tryz.prog 181 os).forCall (fun _ _ => 0) ⟨#[], args, []⟩).memory :=
  laidMetH_of_parts3 (fuel := 8) (laidMet_of_run' 8 (by kernel_rfl) (by kernel_rfl)) (by kernel_rfl) (by kernel_rfl)

end Go.Proofs.YtionnhjldcpmjaaGreatDoor

set_option linter.unusedVariables false
set_option linter.unusedSimpArgs false
namespace Go.Proofs.YtionnhjldcpmjaaGreatDoor
open Go.RowKit

open Go.ChangeShapes Go.WideShapes Go.ChangeAt
/-- The wrap of a law that lists variables, with the shape of the world. -/
theorem returnsIn_laid {H : Type} {enc : TypeId × Value → H} {a : Assume} {C : Checked} {os : Os} {f : FuncId} {fn : Func} {s : ChangeSpec} {conds : List PathCond} {apart fresh handsOn again : Bool} {X : World → Array Value → Prop}
    (hX : ∀ (w w' : World) (args : Array Value), w.heap = w'.heap → X w args → X w' args)
    (own : ownKnob C.prog.godebug = none) (started : os.Started) (noInit : C.prog.inits.idxOf? f = none) (hfn : C.prog.funcs[f]? = some fn)
    (witness : ∃ (w : World) (tape : Tape) (i : Input), w.os = os ∧ (w.forCall tape i).Shaped C.prog ∧ i.vars = [] ∧ Input.okWide C.prog (w.forCall tape i) .any w.heap.size f i ∧
      ((s.pre enc C.prog fn conds apart (w.forCall tape i).memory i.args ∧ X (w.forCall tape i).memory i.args) ∧ sizedMet enc C.prog fn (OpenSpec.ofChange s) apart (w.forCall tape i).memory i.args) ∧ a.holds C.prog (lone (Frame.enter C.prog f i.args .normal) [] (w.forCall tape i)))
    (contract : ∀ (W : World) (base : Nat) (args : Array Value) (ds gs : List (DataW H)) (before : List MemPlace),
      (∀ (j : Nat) t v, fn.params[j]? = some t → args[j]? = some v → Value.okWide C.prog W .any base t v) →
      DataW.Whole enc C.prog fn.params.toList s.vars apart W args.toList ds gs before →
      X W args → W.ShapedOpen C.prog →
      Calls C.prog f args W fun e W' => ∃ v, e = .returned v ∧ s.post enc C.prog fn apart fresh handsOn again W args v W') :
    ReturnsInHanded a C os f .any (fun w args => (s.pre enc C.prog fn conds apart w args ∧ X w args) ∧ sizedMet enc C.prog fn (OpenSpec.ofChange s) apart w args) (s.post enc C.prog fn apart fresh handsOn again) := by
  refine returnsInHanded_of_calls own started noInit witness ?_
  intro w tape i _ hsh _ hok hpre _
  obtain ⟨_, _, _, fn', hfn', _, _, _, _, hval⟩ := hok
  obtain rfl : fn' = fn := Option.some.inj (hfn'.symm.trans hfn)
  obtain ⟨⟨⟨ds, gs, before, hw, _⟩, hx⟩, _⟩ := hpre
  refine (contract (w.forCall tape i) w.heap.size i.args ds gs before hval (DataW.Whole.of_heap (w' := w.forCall tape i) (by rfl) hw) (hX _ _ _ (by rfl) hx) hsh).mono fun e W' ⟨v, he, hp⟩ => ?_
  subst he
  exact ChangeSpec.post_blind hp
theorem some_max {W : World} (h : W.ShapedOpen Tryz.prog) : ∃ m, W.cell? ⟨21, 0, none⟩ = some (.int .i64 m) := Tryz.laysM145.s1_3 W h
theorem i64_bd (a : Int) (h : (Lit.int .i64 a).wf = true) : -9223372036854775808 ≤ a ∧ a ≤ 9223372036854775807 := by
  simp only [Lit.wf, Bool.and_eq_true, decide_eq_true_eq] at h
  have h1 : IntKind.i64.min = -9223372036854775808 := rfl
  have h2 : IntKind.i64.max = 9223372036854775807 := rfl
  omega
/-- A text that came in, as a list. -/
theorem str_of (s : ByteArray) : Value.string s = str s.data.toList := by
  rfl
theorem len_of {s : ByteArray} (h : s.size ≤ maxLen) : s.data.toList.length ≤ 9223372036854775807 := h
set_option maxRecDepth 10000
/-- Each number of an instruction is one of 64 bits. -/
def Ins.Fits (i : Ins) : Prop := (Lit.int .i64 i.op).wf = true ∧ (Lit.int .i64 i.rd).wf = true ∧ (Lit.int .i64 i.r1).wf = true ∧ (Lit.int .i64 i.r2).wf = true ∧ (Lit.int .i64 i.im).wf = true ∧ (Lit.int .i64 i.od).wf = true ∧ (Lit.int .i64 i.sz).wf = true
/-- How an instruction reads. -/
def Ins.data {H : Type} (i : Ins) : DataW H := .agg [.lit (.int .i64 i.op), .lit (.int .i64 i.rd), .lit (.int .i64 i.r1), .lit (.int .i64 i.r2), .lit (.int .i64 i.im), .lit (.int .i64 i.od), .lit (.int .i64 i.sz)]
section
variable {H : Type} {enc : TypeId × Value → H} {w : World} {base : Nat} {sp : Nat → Bool} {held : Bool}
theorem cells28 : Tryz.prog.cellsOf 28 = 7 := by kernel_rfl
theorem open_inst {r : Reach} {b0 : Nat} {v : Value} {d : DataW H} {p : List MemPlace} (hv : Value.okWide Tryz.prog w r b0 28 v) (h : DataW.Trod enc Tryz.prog w base sp held 28 v d p) :
    ∃ i : Ins, i.Fits ∧ v = .agg i.cells ∧ d = i.data ∧ p = [] := by
  obtain ⟨cs, rfl, hsz⟩ := okWide_struct Tryz.underlying28 hv
  rw [cells28] at hsz
  obtain ⟨fuel, hf⟩ := h
  obtain ⟨xs, n, _, hx, _, hlen, hg⟩ := DataW.trod_struct Tryz.underlying28 hf
  obtain ⟨l⟩ := cs
  match l, hsz with
  | [c0, c1, c2, c3, c4, c5, c6], _ =>
    match xs, hlen with
    | [y0, y1, y2, y3, y4, y5, y6], _ =>
      have t0 : DataW.trod enc Tryz.prog w base sp held n 3 [c0] = some y0 := by simpa [Value.cells, cells3] using hg 0 _ rfl
      obtain ⟨z0, u0, rfl, f0⟩ := DataW.trod_int Tryz.underlying3 t0
      obtain rfl : c0 = .int .i64 z0 := by simpa using u0
      have t1 : DataW.trod enc Tryz.prog w base sp held n 3 [c1] = some y1 := by simpa [Value.cells, cells3] using hg 1 _ rfl
      obtain ⟨z1, u1, rfl, f1⟩ := DataW.trod_int Tryz.underlying3 t1
      obtain rfl : c1 = .int .i64 z1 := by simpa using u1
      have t2 : DataW.trod enc Tryz.prog w base sp held n 3 [c2] = some y2 := by simpa [Value.cells, cells3] using hg 2 _ rfl
      obtain ⟨z2, u2, rfl, f2⟩ := DataW.trod_int Tryz.underlying3 t2
      obtain rfl : c2 = .int .i64 z2 := by simpa using u2
      have t3 : DataW.trod enc Tryz.prog w base sp held n 3 [c3] = some y3 := by simpa [Value.cells, cells3] using hg 3 _ rfl
      obtain ⟨z3, u3, rfl, f3⟩ := DataW.trod_int Tryz.underlying3 t3
      obtain rfl : c3 = .int .i64 z3 := by simpa using u3
      have t4 : DataW.trod enc Tryz.prog w base sp held n 3 [c4] = some y4 := by simpa [Value.cells, cells3] using hg 4 _ rfl
      obtain ⟨z4, u4, rfl, f4⟩ := DataW.trod_int Tryz.underlying3 t4
      obtain rfl : c4 = .int .i64 z4 := by simpa using u4
      have t5 : DataW.trod enc Tryz.prog w base sp held n 3 [c5] = some y5 := by simpa [Value.cells, cells3] using hg 5 _ rfl
      obtain ⟨z5, u5, rfl, f5⟩ := DataW.trod_int Tryz.underlying3 t5
      obtain rfl : c5 = .int .i64 z5 := by simpa using u5
      have t6 : DataW.trod enc Tryz.prog w base sp held n 3 [c6] = some y6 := by simpa [Value.cells, cells3] using hg 6 _ rfl
      obtain ⟨z6, u6, rfl, f6⟩ := DataW.trod_int Tryz.underlying3 t6
      obtain rfl : c6 = .int .i64 z6 := by simpa using u6
      simp only [Prod.mk.injEq] at hx
      exact ⟨⟨z0, z1, z2, z3, z4, z5, z6⟩, ⟨f0, f1, f2, f3, f4, f5, f6⟩, rfl, by simpa [Ins.data] using hx.1, by simpa using hx.2⟩
theorem shut_inst {i : Ins} (h : i.Fits) : DataW.Trod enc Tryz.prog w base sp held 28 (.agg i.cells) i.data [] := by
  obtain ⟨f0, f1, f2, f3, f4, f5, f6⟩ := h
  obtain ⟨op, rd, r1, r2, im, od, sz⟩ := i
  have t : ∀ z : Int, (Lit.int .i64 z).wf = true → DataW.trod enc Tryz.prog w base sp held 1 3 [.int .i64 z] = some (.lit (.int .i64 z), []) := fun z hz => trod_int_mk 0 Tryz.underlying3 hz
  have := trod_struct_mk (enc := enc) (P := Tryz.prog) (w := w) (base := base) (spare := sp) (held := held) (n := 1) (cs := [.int .i64 op, .int .i64 rd, .int .i64 r1, .int .i64 r2, .int .i64 im, .int .i64 od, .int .i64 sz]) (xs := [(.lit (.int .i64 op), []), (.lit (.int .i64 rd), []), (.lit (.int .i64 r1), []), (.lit (.int .i64 r2), []), (.lit (.int .i64 im), []), (.lit (.int .i64 od), []), (.lit (.int .i64 sz), [])]) Tryz.underlying28 (by rw [cells28]; rfl)
    (by simp [cells3, t op f0, t rd f1, t r1 f2, t r2 f3, t im f4, t od f5, t sz f6])
  exact ⟨2, this⟩
end
theorem Ins.Fits.in64 {i : Ins} (h : i.Fits) : In64 i := by
  obtain ⟨h0, h1, h2, h3, h4, h5, h6⟩ := h
  exact ⟨i64_bd _ h1, i64_bd _ h2, i64_bd _ h3, i64_bd _ h4⟩

end Go.Proofs.YtionnhjldcpmjaaGreatDoor

set_option linter.unusedVariables false
set_option linter.unusedSimpArgs false
namespace Go.Proofs.YtionnhjldcpmjaaGreatDoor
open Go.RowKit

/-- A text whose lines have all ended, and its bytes. -/
def Qd (t : List UInt8) (acc : List Int) : Prop := ∀ r y, asmT r = .ok y → asmT (t ++ r) = .ok (acc ++ y)
theorem asmT_nil : asmT [] = .ok [] := rfl
theorem Qd.nil : Qd [] [] := fun r y h => by simpa using h
theorem Qd.step {t l : List UInt8} {acc z : List Int} (h : Qd t acc) (hl : asmT l = .ok z) : Qd (t ++ l ++ [10]) (acc ++ z) := by
  intro r y hr
  have hj := asmT_joined l r
  rw [hl, hr] at hj
  have := h _ _ hj
  rw [List.append_assoc, List.append_assoc, List.append_assoc]
  simpa using this
theorem Qd.done {t : List UInt8} {acc : List Int} (h : Qd t acc) : asmT t = .ok acc := by
  have := h [] [] asmT_nil
  simpa using this
theorem Qd.last {t l : List UInt8} {acc z : List Int} (h : Qd t acc) (hl : asmT l = .ok z) : asmT (t ++ l) = .ok (acc ++ z) := h _ _ hl
theorem asmT_line (l : List UInt8) (hn : (10 : UInt8) ∉ l) (hne : l ≠ []) (x : Int) (k : Nat) (hV : lineV l = some (x, k)) : asmT l = .ok (putB x k) := by
  unfold asmT
  rw [lines_one l hn hne]
  simp [asmR, hV]
theorem word_line (s : Nat) (hs : s < 4294967296) (h0 : opW s ≠ 0) (h85 : opW s ≠ 85) (h86 : opW s ≠ 86) : encB (dec s) = true ∧ asmT (textL (dec s)) = .ok (putB (s : Int) 4) := by
  have hb := back_eq s hs h0 h85 h86
  have hB : encB (dec s) = true := by
    unfold encB
    rw [hb]
    simp [h0]
  have hg := good_of hB
  obtain ⟨_, h2, h3⟩ := text_line _ hg
  refine ⟨hB, ?_⟩
  have hV := lineV_text _ hB
  rw [hb] at hV
  exact asmT_line _ h3 h2 _ _ hV
theorem ecall_line : asmT [101, 99, 97, 108, 108] = .ok (putB 115 4) := asmT_line _ (by decide) (by decide) _ _ lineV_ecall
theorem parseM_snoc (M : Nat) (hM : M < 18446744073709551616) (d : UInt8) (hd : 48 ≤ d.toNat ∧ d.toNat ≤ 57) : ∀ (l : List UInt8) (acc v : Nat), Lib.parseUintM M acc l = .ok v → v * 10 + (d.toNat - 48) ≤ M → Lib.parseUintM M acc (l ++ [d]) = .ok (v * 10 + (d.toNat - 48))
  | [], acc, v, h, hv => by
    simp only [Lib.parseUintM] at h
    injection h with h
    subst h
    simp only [List.nil_append, Lib.parseUintM]
    rw [if_pos hd, if_neg (by omega), if_neg (by omega)]
  | c :: r, acc, v, h, hv => by
    simp only [List.cons_append, Lib.parseUintM] at h ⊢
    split at h
    · rename_i h1
      rw [if_pos h1]
      split at h
      · cases h
      · rename_i h2
        rw [if_neg h2]
        split at h
        · cases h
        · rename_i h3
          rw [if_neg h3]
          exact parseM_snoc M hM d hd r _ v h hv
    · cases h
theorem parseM_dec (M : Nat) (hM : M < 18446744073709551616) (u : Nat) (h : u ≤ M) : Lib.parseUintM M 0 (Lib.decDigits u) = .ok u := by
  induction u using Nat.strongRecOn with
  | _ u ih =>
    rw [Lib.decDigits]
    split
    · rename_i hu
      have hb := byte_of u hu
      have := parseM_snoc M hM (UInt8.ofNat (48 + u)) (by omega) [] 0 0 rfl (by omega)
      rw [List.nil_append] at this
      rw [this]
      congr 1
      omega
    · rename_i hu
      have hb := byte_of (u % 10) (by omega)
      rw [parseM_snoc M hM (UInt8.ofNat (48 + u % 10)) (by omega) _ 0 (u / 10) (ih (u / 10) (by omega) (by omega)) (by omega)]
      congr 1
      omega
theorem rdD_dec (k : Nat) (hk : k = 1 ∨ k = 2 ∨ k = 4 ∨ k = 8) (u : Nat) (hu : u ≤ 2 ^ (8 * k) - 1) : rdD k (Lib.decDigits u) = some u := by
  have hM : 2 ^ (8 * k) - 1 < 18446744073709551616 := by rcases hk with rfl | rfl | rfl | rfl <;> decide
  unfold rdD Lib.parseUintB
  rw [if_neg (dec_ne u), parseM_dec _ hM u hu]
  simp
theorem dec_no (u : Nat) (c : UInt8) (h : c.toNat < 48) : c ∉ Lib.decDigits u := fun hc => by have := dec_digits u c hc; omega
theorem data_line (nam : List UInt8) (k u : Nat) (hk : k = 1 ∨ k = 2 ∨ k = 4 ∨ k = 8) (hn : (32 : UInt8) ∉ nam) (h10 : (10 : UInt8) ∉ nam) (hd : dsz nam = k) (hu : u ≤ 2 ^ (8 * k) - 1) :
    asmT (nam ++ [32] ++ Lib.decDigits u) = .ok (putB (u : Int) k) := by
  have hc : Lib.cut (nam ++ [32] ++ Lib.decDigits u) [32] = (nam, Lib.decDigits u, true) := by
    have := cut_found 32 [] nam (Lib.decDigits u) hn
    simpa using this
  have hne : nam ++ [32] ++ Lib.decDigits u ≠ [] := by simp
  refine asmT_line _ ?_ hne _ _ ?_
  · simp only [List.mem_append, not_or]
    exact ⟨⟨h10, by decide⟩, dec_no u 10 (by decide)⟩
  · unfold lineV
    rw [if_neg hne]
    have hi : isData (nam ++ [32] ++ Lib.decDigits u) = true := by
      unfold isData
      rw [hc, hd]
      simp
      omega
    rw [if_pos hi, hc]
    simp only [hd]
    rw [rdD_dec k hk u hu]
    rfl
theorem data_1 (u : Nat) (hu : u < 256) : asmT ([46, 98, 121, 116, 101, 32] ++ Lib.decDigits u) = .ok (putB (u : Int) 1) := by
  have := data_line [46, 98, 121, 116, 101] 1 u (by decide) (by decide) (by decide) (by decide) (by simp; omega)
  simpa using this
theorem data_2 (u : Nat) (hu : u < 65536) : asmT ([46, 104, 97, 108, 102, 32] ++ Lib.decDigits u) = .ok (putB (u : Int) 2) := by
  have := data_line [46, 104, 97, 108, 102] 2 u (by decide) (by decide) (by decide) (by decide) (by simp; omega)
  simpa using this
theorem data_4 (u : Nat) (hu : u < 4294967296) : asmT ([46, 119, 111, 114, 100, 32] ++ Lib.decDigits u) = .ok (putB (u : Int) 4) := by
  have := data_line [46, 119, 111, 114, 100] 4 u (by decide) (by decide) (by decide) (by decide) (by simp; omega)
  simpa using this
theorem data_8 (u : Nat) (hu : u < 18446744073709551616) : asmT ([46, 100, 119, 111, 114, 100, 32] ++ Lib.decDigits u) = .ok (putB (u : Int) 8) := by
  have := data_line [46, 100, 119, 111, 114, 100] 8 u (by decide) (by decide) (by decide) (by decide) (by simp; omega)
  simpa using this
/-- A row of numbers that came in. -/
def RowK (kd : IntKind) (w : World) (A : Option Addr) (len : Nat) (xs : List Int) : Prop := xs.length = len ∧ ∀ k, k < len → ∃ b off, A = some ⟨b, off, none⟩ ∧ w.cell? ⟨b, off + k, none⟩ = some (.int kd (xs.getD k 0)) ∧ (Lit.int kd (xs.getD k 0)).wf = true
theorem RowK.bl {kd : IntKind} {w w' : World} {A : Option Addr} {len : Nat} {xs : List Int} (h : RowK kd w A len xs) (k : Bl w w') : RowK kd w' A len xs :=
  ⟨h.1, fun i hi => by obtain ⟨b, off, h1, h2, h3⟩ := h.2 i hi; exact ⟨b, off, h1, k.cell h2, h3⟩⟩
open Go.ChangeShapes Go.WideShapes Go.ChangeAt
theorem open_row {H : Type} {enc : TypeId × Value → H} {W : World} {sp : Nat → Bool} {t e : TypeId} {kd : IntKind} {A : Option Addr} {len cap : Nat} {d : DataW H} {p : List MemPlace}
    (ht : Tryz.prog.underlying t = some (.slice e)) (he : Tryz.prog.underlying e = some (.int kd)) (hc : Tryz.prog.cellsOf e = 1)
    (h : DataW.Trod enc Tryz.prog W 0 sp true t (.slice A len cap) d p) : ∃ xs, RowK kd W A len xs := by
  obtain ⟨fuel, hf⟩ := h
  rcases open_ints ht he hc hf with ⟨hcs, _⟩ | ⟨x, l, c, zs, hcs, _, hl, hm, hz, _, hcell, hwz⟩
  · simp [Value.cells] at hcs
    obtain ⟨rfl, rfl, rfl⟩ := hcs
    exact ⟨[], rfl, fun k hk => by omega⟩
  · simp [Value.cells] at hcs
    obtain ⟨rfl, rfl, rfl⟩ := hcs
    have hlz : len ≤ zs.length := by rw [hz]; split <;> omega
    refine ⟨zs.take len, by rw [List.length_take]; omega, fun k hk => ?_⟩
    have hkz : k < zs.length := by omega
    have hg : (zs.take len).getD k 0 = zs.getD k 0 := by rw [List.getD_eq_getElem?_getD, List.getD_eq_getElem?_getD, List.getElem?_take_of_lt hk]
    rw [hg]
    have h0 := hcell 0 (by omega)
    have h1 := hcell k hkz
    obtain ⟨b, off, spot⟩ := x
    have hspot : spot = none := by simpa [Addr.add] using World.cell?_spot h0
    subst hspot
    refine ⟨b, off, rfl, ?_, ?_⟩
    · rw [Lib.add_plain] at h1
      exact h1
    · rw [List.getD_eq_getElem?_getD, List.getElem?_eq_getElem hkz]
      exact hwz _ (by simp)
theorem wf_nat {kd : IntKind} {x : Int} (h : (Lit.int kd x).wf = true) (hm : kd.min = 0) : ∃ n : Nat, x = (n : Int) ∧ (n : Int) ≤ kd.max := by
  simp only [Lit.wf, Bool.and_eq_true, decide_eq_true_eq] at h
  exact ⟨x.toNat, by omega, by omega⟩

end Go.Proofs.YtionnhjldcpmjaaGreatDoor
