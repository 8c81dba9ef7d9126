/-
  What all listed variables hold, when the law's call begins: the arrays of both packages. A start that meets it.
-/
import Derived.Test.YtfkecgidjicidaaDoorLaidC
import Derived.Test.YtfkecgidjicidaaDoorEncodeD
set_option linter.unusedVariables false
namespace Go.Proofs.YtfkecgidjicidaaDoor
open Go.ChangeShapes Go.WideShapes Go.ChangeAt Go.RowKit
def laidS : List (String × DataW Unit) := [("marionette/comp.operators", Rows.laid_marionette_comp_operators), ("marionette/comp.reckoners", Rows.laid_marionette_comp_reckoners), ("marionette/inst.jumps", Rows.laid_marionette_inst_jumps), ("marionette/inst.branches", Rows.laid_marionette_inst_branches), ("marionette/inst.loads", Rows.laid_marionette_inst_loads), ("marionette/inst.stores", Rows.laid_marionette_inst_stores), ("marionette/inst.immediates", Rows.laid_marionette_inst_immediates), ("marionette/inst.shifts", Rows.laid_marionette_inst_shifts), ("marionette/inst.otherShifts", Rows.laid_marionette_inst_otherShifts), ("marionette/inst.plain", Rows.laid_marionette_inst_plain), ("marionette/inst.otherPlain", Rows.laid_marionette_inst_otherPlain), ("marionette/inst.products", Rows.laid_marionette_inst_products), ("marionette/inst.narrowImmediates", Rows.laid_marionette_inst_narrowImmediates), ("marionette/inst.narrowShifts", Rows.laid_marionette_inst_narrowShifts), ("marionette/inst.otherNarrowShifts", Rows.laid_marionette_inst_otherNarrowShifts), ("marionette/inst.narrowPlain", Rows.laid_marionette_inst_narrowPlain), ("marionette/inst.otherNarrowPlain", Rows.laid_marionette_inst_otherNarrowPlain), ("marionette/inst.narrowProducts", Rows.laid_marionette_inst_narrowProducts), ("marionette/inst.fences", Rows.laid_marionette_inst_fences), ("marionette/inst.atomicWords", Rows.laid_marionette_inst_atomicWords), ("marionette/inst.atomicDoubles", Rows.laid_marionette_inst_atomicDoubles)]
theorem cells67 : Tryd.prog.cellsOf 67 = 32 := by kernel_rfl
/-- The arrays of both packages. -/
structure TabsS (w : World) : Prop where
  c : TabsC w
  i : Tabs w
theorem TabsS.kp {w w' : World} (h : TabsS w) (k : Kp none w w') : TabsS w' := ⟨h.c.kp k, h.i.kp k⟩
theorem gS1 : Tryd.prog.globalNamed "marionette/inst.jumps" = some 1 := by kernel_rfl
theorem yS1 : (Tryd.prog.globals[1]?).map (·.type) = some 44 := by kernel_rfl
theorem gS2 : Tryd.prog.globalNamed "marionette/inst.branches" = some 2 := by kernel_rfl
theorem yS2 : (Tryd.prog.globals[2]?).map (·.type) = some 44 := by kernel_rfl
theorem gS3 : Tryd.prog.globalNamed "marionette/inst.loads" = some 3 := by kernel_rfl
theorem yS3 : (Tryd.prog.globals[3]?).map (·.type) = some 44 := by kernel_rfl
theorem gS4 : Tryd.prog.globalNamed "marionette/inst.stores" = some 4 := by kernel_rfl
theorem yS4 : (Tryd.prog.globals[4]?).map (·.type) = some 44 := by kernel_rfl
theorem gS13 : Tryd.prog.globalNamed "marionette/inst.immediates" = some 13 := by kernel_rfl
theorem yS13 : (Tryd.prog.globals[13]?).map (·.type) = some 44 := by kernel_rfl
theorem gS14 : Tryd.prog.globalNamed "marionette/inst.shifts" = some 14 := by kernel_rfl
theorem yS14 : (Tryd.prog.globals[14]?).map (·.type) = some 44 := by kernel_rfl
theorem gS15 : Tryd.prog.globalNamed "marionette/inst.otherShifts" = some 15 := by kernel_rfl
theorem yS15 : (Tryd.prog.globals[15]?).map (·.type) = some 44 := by kernel_rfl
theorem gS5 : Tryd.prog.globalNamed "marionette/inst.plain" = some 5 := by kernel_rfl
theorem yS5 : (Tryd.prog.globals[5]?).map (·.type) = some 44 := by kernel_rfl
theorem gS6 : Tryd.prog.globalNamed "marionette/inst.otherPlain" = some 6 := by kernel_rfl
theorem yS6 : (Tryd.prog.globals[6]?).map (·.type) = some 44 := by kernel_rfl
theorem gS7 : Tryd.prog.globalNamed "marionette/inst.products" = some 7 := by kernel_rfl
theorem yS7 : (Tryd.prog.globals[7]?).map (·.type) = some 44 := by kernel_rfl
theorem gS16 : Tryd.prog.globalNamed "marionette/inst.narrowImmediates" = some 16 := by kernel_rfl
theorem yS16 : (Tryd.prog.globals[16]?).map (·.type) = some 44 := by kernel_rfl
theorem gS17 : Tryd.prog.globalNamed "marionette/inst.narrowShifts" = some 17 := by kernel_rfl
theorem yS17 : (Tryd.prog.globals[17]?).map (·.type) = some 44 := by kernel_rfl
theorem gS18 : Tryd.prog.globalNamed "marionette/inst.otherNarrowShifts" = some 18 := by kernel_rfl
theorem yS18 : (Tryd.prog.globals[18]?).map (·.type) = some 44 := by kernel_rfl
theorem gS8 : Tryd.prog.globalNamed "marionette/inst.narrowPlain" = some 8 := by kernel_rfl
theorem yS8 : (Tryd.prog.globals[8]?).map (·.type) = some 44 := by kernel_rfl
theorem gS9 : Tryd.prog.globalNamed "marionette/inst.otherNarrowPlain" = some 9 := by kernel_rfl
theorem yS9 : (Tryd.prog.globals[9]?).map (·.type) = some 44 := by kernel_rfl
theorem gS10 : Tryd.prog.globalNamed "marionette/inst.narrowProducts" = some 10 := by kernel_rfl
theorem yS10 : (Tryd.prog.globals[10]?).map (·.type) = some 44 := by kernel_rfl
theorem gS11 : Tryd.prog.globalNamed "marionette/inst.fences" = some 11 := by kernel_rfl
theorem yS11 : (Tryd.prog.globals[11]?).map (·.type) = some 44 := by kernel_rfl
theorem gS19 : Tryd.prog.globalNamed "marionette/inst.atomicWords" = some 19 := by kernel_rfl
theorem yS19 : (Tryd.prog.globals[19]?).map (·.type) = some 67 := by kernel_rfl
theorem gS20 : Tryd.prog.globalNamed "marionette/inst.atomicDoubles" = some 20 := by kernel_rfl
theorem yS20 : (Tryd.prog.globals[20]?).map (·.type) = some 67 := by kernel_rfl
/-- The condition gives the arrays. -/
theorem of_laidS {W : World} (h : laidMetH Tryd.prog laidS W) : TabsS W := by
  rw [MakeChecks.laidMetH_plain _ _ _ (by kernel_rfl)] at h
  have mO := tabO_of h
  replace h := h.tail
  have mR := tabR_of h
  replace h := h.tail
  have m1 : Tab W 1 [4, 0, 0, 0, 0, 0, 0, 0] := fun i hi => (Lib.tabIs_of_head (k := .i64) (zs := [4, 0, 0, 0, 0, 0, 0, 0]) gS1 yS1 Tryd.underlying44 Tryd.underlying3 cells3 cells44 h).cell gS1 i hi
  replace h := h.tail
  have m2 : Tab W 2 [5, 6, 0, 0, 7, 8, 9, 10] := fun i hi => (Lib.tabIs_of_head (k := .i64) (zs := [5, 6, 0, 0, 7, 8, 9, 10]) gS2 yS2 Tryd.underlying44 Tryd.underlying3 cells3 cells44 h).cell gS2 i hi
  replace h := h.tail
  have m3 : Tab W 3 [11, 12, 13, 14, 15, 16, 17, 0] := fun i hi => (Lib.tabIs_of_head (k := .i64) (zs := [11, 12, 13, 14, 15, 16, 17, 0]) gS3 yS3 Tryd.underlying44 Tryd.underlying3 cells3 cells44 h).cell gS3 i hi
  replace h := h.tail
  have m4 : Tab W 4 [18, 19, 20, 21, 0, 0, 0, 0] := fun i hi => (Lib.tabIs_of_head (k := .i64) (zs := [18, 19, 20, 21, 0, 0, 0, 0]) gS4 yS4 Tryd.underlying44 Tryd.underlying3 cells3 cells44 h).cell gS4 i hi
  replace h := h.tail
  have m13 : Tab W 13 [22, 0, 23, 24, 25, 0, 26, 27] := fun i hi => (Lib.tabIs_of_head (k := .i64) (zs := [22, 0, 23, 24, 25, 0, 26, 27]) gS13 yS13 Tryd.underlying44 Tryd.underlying3 cells3 cells44 h).cell gS13 i hi
  replace h := h.tail
  have m14 : Tab W 14 [0, 28, 0, 0, 0, 29, 0, 0] := fun i hi => (Lib.tabIs_of_head (k := .i64) (zs := [0, 28, 0, 0, 0, 29, 0, 0]) gS14 yS14 Tryd.underlying44 Tryd.underlying3 cells3 cells44 h).cell gS14 i hi
  replace h := h.tail
  have m15 : Tab W 15 [0, 0, 0, 0, 0, 30, 0, 0] := fun i hi => (Lib.tabIs_of_head (k := .i64) (zs := [0, 0, 0, 0, 0, 30, 0, 0]) gS15 yS15 Tryd.underlying44 Tryd.underlying3 cells3 cells44 h).cell gS15 i hi
  replace h := h.tail
  have m5 : Tab W 5 [31, 33, 34, 35, 36, 37, 39, 40] := fun i hi => (Lib.tabIs_of_head (k := .i64) (zs := [31, 33, 34, 35, 36, 37, 39, 40]) gS5 yS5 Tryd.underlying44 Tryd.underlying3 cells3 cells44 h).cell gS5 i hi
  replace h := h.tail
  have m6 : Tab W 6 [32, 0, 0, 0, 0, 38, 0, 0] := fun i hi => (Lib.tabIs_of_head (k := .i64) (zs := [32, 0, 0, 0, 0, 38, 0, 0]) gS6 yS6 Tryd.underlying44 Tryd.underlying3 cells3 cells44 h).cell gS6 i hi
  replace h := h.tail
  have m7 : Tab W 7 [50, 51, 52, 53, 54, 55, 56, 57] := fun i hi => (Lib.tabIs_of_head (k := .i64) (zs := [50, 51, 52, 53, 54, 55, 56, 57]) gS7 yS7 Tryd.underlying44 Tryd.underlying3 cells3 cells44 h).cell gS7 i hi
  replace h := h.tail
  have m16 : Tab W 16 [41, 0, 0, 0, 0, 0, 0, 0] := fun i hi => (Lib.tabIs_of_head (k := .i64) (zs := [41, 0, 0, 0, 0, 0, 0, 0]) gS16 yS16 Tryd.underlying44 Tryd.underlying3 cells3 cells44 h).cell gS16 i hi
  replace h := h.tail
  have m17 : Tab W 17 [0, 42, 0, 0, 0, 43, 0, 0] := fun i hi => (Lib.tabIs_of_head (k := .i64) (zs := [0, 42, 0, 0, 0, 43, 0, 0]) gS17 yS17 Tryd.underlying44 Tryd.underlying3 cells3 cells44 h).cell gS17 i hi
  replace h := h.tail
  have m18 : Tab W 18 [0, 0, 0, 0, 0, 44, 0, 0] := fun i hi => (Lib.tabIs_of_head (k := .i64) (zs := [0, 0, 0, 0, 0, 44, 0, 0]) gS18 yS18 Tryd.underlying44 Tryd.underlying3 cells3 cells44 h).cell gS18 i hi
  replace h := h.tail
  have m8 : Tab W 8 [45, 47, 0, 0, 0, 48, 0, 0] := fun i hi => (Lib.tabIs_of_head (k := .i64) (zs := [45, 47, 0, 0, 0, 48, 0, 0]) gS8 yS8 Tryd.underlying44 Tryd.underlying3 cells3 cells44 h).cell gS8 i hi
  replace h := h.tail
  have m9 : Tab W 9 [46, 0, 0, 0, 0, 49, 0, 0] := fun i hi => (Lib.tabIs_of_head (k := .i64) (zs := [46, 0, 0, 0, 0, 49, 0, 0]) gS9 yS9 Tryd.underlying44 Tryd.underlying3 cells3 cells44 h).cell gS9 i hi
  replace h := h.tail
  have m10 : Tab W 10 [58, 0, 0, 0, 59, 60, 61, 62] := fun i hi => (Lib.tabIs_of_head (k := .i64) (zs := [58, 0, 0, 0, 59, 60, 61, 62]) gS10 yS10 Tryd.underlying44 Tryd.underlying3 cells3 cells44 h).cell gS10 i hi
  replace h := h.tail
  have m11 : Tab W 11 [85, 86, 0, 0, 0, 0, 0, 0] := fun i hi => (Lib.tabIs_of_head (k := .i64) (zs := [85, 86, 0, 0, 0, 0, 0, 0]) gS11 yS11 Tryd.underlying44 Tryd.underlying3 cells3 cells44 h).cell gS11 i hi
  replace h := h.tail
  have m19 : Tab W 19 [66, 65, 63, 64, 67, 0, 0, 0, 69, 0, 0, 0, 68, 0, 0, 0, 70, 0, 0, 0, 71, 0, 0, 0, 72, 0, 0, 0, 73, 0, 0, 0] := fun i hi => (Lib.tabIs_of_head (k := .i64) (zs := [66, 65, 63, 64, 67, 0, 0, 0, 69, 0, 0, 0, 68, 0, 0, 0, 70, 0, 0, 0, 71, 0, 0, 0, 72, 0, 0, 0, 73, 0, 0, 0]) gS19 yS19 Tryd.underlying67 Tryd.underlying3 cells3 cells67 h).cell gS19 i hi
  replace h := h.tail
  have m20 : Tab W 20 [77, 76, 74, 75, 78, 0, 0, 0, 80, 0, 0, 0, 79, 0, 0, 0, 81, 0, 0, 0, 82, 0, 0, 0, 83, 0, 0, 0, 84, 0, 0, 0] := fun i hi => (Lib.tabIs_of_head (k := .i64) (zs := [77, 76, 74, 75, 78, 0, 0, 0, 80, 0, 0, 0, 79, 0, 0, 0, 81, 0, 0, 0, 82, 0, 0, 0, 83, 0, 0, 0, 84, 0, 0, 0]) gS20 yS20 Tryd.underlying67 Tryd.underlying3 cells3 cells67 h).cell gS20 i hi
  replace h := h.tail
  exact ⟨⟨mO, mR⟩, ⟨m1, m2, m3, m4, m5, m6, m7, m8, m9, m10, m11, m13, m14, m15, m16, m17, m18, m19, m20⟩⟩
set_option maxRecDepth 100000 in
/-- The door's own heap meets the condition. -/
theorem door_metS (os : Os) (args : Array Value) : laidMetH Tryd.prog laidS ((World.doorLaid Tryd.prog 117 os).forCall (fun _ _ => 0) ⟨#[], args, []⟩).memory :=
  laidMetH_of_parts3 (fuel := 8) (laidMet_of_run' 8 (by kernel_rfl) (by kernel_rfl)) (by kernel_rfl) (by kernel_rfl)
end Go.Proofs.YtfkecgidjicidaaDoor
