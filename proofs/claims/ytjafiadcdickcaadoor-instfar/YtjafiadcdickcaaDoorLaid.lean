/-
  What the listed variables hold, when a law's call begins: the arrays by fields. A start that meets it. An instruction as an argument.
-/
import Derived.Test.YtjafiadcdickcaaDoorEncodeD
import Derived.Test.YtjafiadcdickcaaDoorRefJ
import Derived.ProofKit
import Derived.LaidMore
import Derived.OpenShut
import Derived.Stop.Joined
import Derived.Stop.LaidErr
import Derived.Lib.LaidTab
import Derived.Deep.Fields
set_option linter.unusedVariables false
namespace Go.Proofs.YtjafiadcdickcaaDoor
open Go.ChangeShapes Go.WideShapes Go.ChangeAt Go.RowKit
theorem own : ownKnob Tryd.prog.godebug = none := by kernel_rfl
def laidL : List (String × DataW Unit) := [("marionette/inst.jumps", Rows.laid_marionette_inst_jumps), ("marionette/inst.branches", Rows.laid_marionette_inst_branches), ("marionette/inst.loads", Rows.laid_marionette_inst_loads), ("marionette/inst.stores", Rows.laid_marionette_inst_stores), ("marionette/inst.immediates", Rows.laid_marionette_inst_immediates), ("marionette/inst.shifts", Rows.laid_marionette_inst_shifts), ("marionette/inst.otherShifts", Rows.laid_marionette_inst_otherShifts), ("marionette/inst.plain", Rows.laid_marionette_inst_plain), ("marionette/inst.otherPlain", Rows.laid_marionette_inst_otherPlain), ("marionette/inst.products", Rows.laid_marionette_inst_products), ("marionette/inst.narrowImmediates", Rows.laid_marionette_inst_narrowImmediates), ("marionette/inst.narrowShifts", Rows.laid_marionette_inst_narrowShifts), ("marionette/inst.otherNarrowShifts", Rows.laid_marionette_inst_otherNarrowShifts), ("marionette/inst.narrowPlain", Rows.laid_marionette_inst_narrowPlain), ("marionette/inst.otherNarrowPlain", Rows.laid_marionette_inst_otherNarrowPlain), ("marionette/inst.narrowProducts", Rows.laid_marionette_inst_narrowProducts), ("marionette/inst.fences", Rows.laid_marionette_inst_fences), ("marionette/inst.atomicWords", Rows.laid_marionette_inst_atomicWords), ("marionette/inst.atomicDoubles", Rows.laid_marionette_inst_atomicDoubles)]
theorem cells3 : Tryd.prog.cellsOf 3 = 1 := by kernel_rfl
theorem cells53 : Tryd.prog.cellsOf 53 = 8 := by kernel_rfl
theorem cells60 : Tryd.prog.cellsOf 60 = 32 := by kernel_rfl
theorem g0 : Tryd.prog.globalNamed "marionette/inst.jumps" = some 0 := by kernel_rfl
theorem y0 : (Tryd.prog.globals[0]?).map (·.type) = some 53 := by kernel_rfl
theorem g1 : Tryd.prog.globalNamed "marionette/inst.branches" = some 1 := by kernel_rfl
theorem y1 : (Tryd.prog.globals[1]?).map (·.type) = some 53 := by kernel_rfl
theorem g2 : Tryd.prog.globalNamed "marionette/inst.loads" = some 2 := by kernel_rfl
theorem y2 : (Tryd.prog.globals[2]?).map (·.type) = some 53 := by kernel_rfl
theorem g3 : Tryd.prog.globalNamed "marionette/inst.stores" = some 3 := by kernel_rfl
theorem y3 : (Tryd.prog.globals[3]?).map (·.type) = some 53 := by kernel_rfl
theorem g11 : Tryd.prog.globalNamed "marionette/inst.immediates" = some 11 := by kernel_rfl
theorem y11 : (Tryd.prog.globals[11]?).map (·.type) = some 53 := by kernel_rfl
theorem g12 : Tryd.prog.globalNamed "marionette/inst.shifts" = some 12 := by kernel_rfl
theorem y12 : (Tryd.prog.globals[12]?).map (·.type) = some 53 := by kernel_rfl
theorem g13 : Tryd.prog.globalNamed "marionette/inst.otherShifts" = some 13 := by kernel_rfl
theorem y13 : (Tryd.prog.globals[13]?).map (·.type) = some 53 := by kernel_rfl
theorem g4 : Tryd.prog.globalNamed "marionette/inst.plain" = some 4 := by kernel_rfl
theorem y4 : (Tryd.prog.globals[4]?).map (·.type) = some 53 := by kernel_rfl
theorem g5 : Tryd.prog.globalNamed "marionette/inst.otherPlain" = some 5 := by kernel_rfl
theorem y5 : (Tryd.prog.globals[5]?).map (·.type) = some 53 := by kernel_rfl
theorem g6 : Tryd.prog.globalNamed "marionette/inst.products" = some 6 := by kernel_rfl
theorem y6 : (Tryd.prog.globals[6]?).map (·.type) = some 53 := by kernel_rfl
theorem g14 : Tryd.prog.globalNamed "marionette/inst.narrowImmediates" = some 14 := by kernel_rfl
theorem y14 : (Tryd.prog.globals[14]?).map (·.type) = some 53 := by kernel_rfl
theorem g15 : Tryd.prog.globalNamed "marionette/inst.narrowShifts" = some 15 := by kernel_rfl
theorem y15 : (Tryd.prog.globals[15]?).map (·.type) = some 53 := by kernel_rfl
theorem g16 : Tryd.prog.globalNamed "marionette/inst.otherNarrowShifts" = some 16 := by kernel_rfl
theorem y16 : (Tryd.prog.globals[16]?).map (·.type) = some 53 := by kernel_rfl
theorem g7 : Tryd.prog.globalNamed "marionette/inst.narrowPlain" = some 7 := by kernel_rfl
theorem y7 : (Tryd.prog.globals[7]?).map (·.type) = some 53 := by kernel_rfl
theorem g8 : Tryd.prog.globalNamed "marionette/inst.otherNarrowPlain" = some 8 := by kernel_rfl
theorem y8 : (Tryd.prog.globals[8]?).map (·.type) = some 53 := by kernel_rfl
theorem g9 : Tryd.prog.globalNamed "marionette/inst.narrowProducts" = some 9 := by kernel_rfl
theorem y9 : (Tryd.prog.globals[9]?).map (·.type) = some 53 := by kernel_rfl
theorem g10 : Tryd.prog.globalNamed "marionette/inst.fences" = some 10 := by kernel_rfl
theorem y10 : (Tryd.prog.globals[10]?).map (·.type) = some 53 := by kernel_rfl
theorem g17 : Tryd.prog.globalNamed "marionette/inst.atomicWords" = some 17 := by kernel_rfl
theorem y17 : (Tryd.prog.globals[17]?).map (·.type) = some 60 := by kernel_rfl
theorem g18 : Tryd.prog.globalNamed "marionette/inst.atomicDoubles" = some 18 := by kernel_rfl
theorem y18 : (Tryd.prog.globals[18]?).map (·.type) = some 60 := by kernel_rfl
/-- The condition gives the arrays. -/
theorem of_laid {W : World} (h : laidMetH Tryd.prog laidL W) : Tabs W := by
  rw [MakeChecks.laidMetH_plain _ _ _ (by kernel_rfl)] at h
  have m0 : Tab W 0 [4, 0, 0, 0, 0, 0, 0, 0] := fun i hi => (Lib.tabIs_of_head (k := .i64) (zs := [4, 0, 0, 0, 0, 0, 0, 0]) g0 y0 Tryd.underlying53 Tryd.underlying3 cells3 cells53 h).cell g0 i hi
  replace h := h.tail
  have m1 : Tab W 1 [5, 6, 0, 0, 7, 8, 9, 10] := fun i hi => (Lib.tabIs_of_head (k := .i64) (zs := [5, 6, 0, 0, 7, 8, 9, 10]) g1 y1 Tryd.underlying53 Tryd.underlying3 cells3 cells53 h).cell g1 i hi
  replace h := h.tail
  have m2 : Tab W 2 [11, 12, 13, 14, 15, 16, 17, 0] := fun i hi => (Lib.tabIs_of_head (k := .i64) (zs := [11, 12, 13, 14, 15, 16, 17, 0]) g2 y2 Tryd.underlying53 Tryd.underlying3 cells3 cells53 h).cell g2 i hi
  replace h := h.tail
  have m3 : Tab W 3 [18, 19, 20, 21, 0, 0, 0, 0] := fun i hi => (Lib.tabIs_of_head (k := .i64) (zs := [18, 19, 20, 21, 0, 0, 0, 0]) g3 y3 Tryd.underlying53 Tryd.underlying3 cells3 cells53 h).cell g3 i hi
  replace h := h.tail
  have m11 : Tab W 11 [22, 0, 23, 24, 25, 0, 26, 27] := fun i hi => (Lib.tabIs_of_head (k := .i64) (zs := [22, 0, 23, 24, 25, 0, 26, 27]) g11 y11 Tryd.underlying53 Tryd.underlying3 cells3 cells53 h).cell g11 i hi
  replace h := h.tail
  have m12 : Tab W 12 [0, 28, 0, 0, 0, 29, 0, 0] := fun i hi => (Lib.tabIs_of_head (k := .i64) (zs := [0, 28, 0, 0, 0, 29, 0, 0]) g12 y12 Tryd.underlying53 Tryd.underlying3 cells3 cells53 h).cell g12 i hi
  replace h := h.tail
  have m13 : Tab W 13 [0, 0, 0, 0, 0, 30, 0, 0] := fun i hi => (Lib.tabIs_of_head (k := .i64) (zs := [0, 0, 0, 0, 0, 30, 0, 0]) g13 y13 Tryd.underlying53 Tryd.underlying3 cells3 cells53 h).cell g13 i hi
  replace h := h.tail
  have m4 : Tab W 4 [31, 33, 34, 35, 36, 37, 39, 40] := fun i hi => (Lib.tabIs_of_head (k := .i64) (zs := [31, 33, 34, 35, 36, 37, 39, 40]) g4 y4 Tryd.underlying53 Tryd.underlying3 cells3 cells53 h).cell g4 i hi
  replace h := h.tail
  have m5 : Tab W 5 [32, 0, 0, 0, 0, 38, 0, 0] := fun i hi => (Lib.tabIs_of_head (k := .i64) (zs := [32, 0, 0, 0, 0, 38, 0, 0]) g5 y5 Tryd.underlying53 Tryd.underlying3 cells3 cells53 h).cell g5 i hi
  replace h := h.tail
  have m6 : Tab W 6 [50, 51, 52, 53, 54, 55, 56, 57] := fun i hi => (Lib.tabIs_of_head (k := .i64) (zs := [50, 51, 52, 53, 54, 55, 56, 57]) g6 y6 Tryd.underlying53 Tryd.underlying3 cells3 cells53 h).cell g6 i hi
  replace h := h.tail
  have m14 : Tab W 14 [41, 0, 0, 0, 0, 0, 0, 0] := fun i hi => (Lib.tabIs_of_head (k := .i64) (zs := [41, 0, 0, 0, 0, 0, 0, 0]) g14 y14 Tryd.underlying53 Tryd.underlying3 cells3 cells53 h).cell g14 i hi
  replace h := h.tail
  have m15 : Tab W 15 [0, 42, 0, 0, 0, 43, 0, 0] := fun i hi => (Lib.tabIs_of_head (k := .i64) (zs := [0, 42, 0, 0, 0, 43, 0, 0]) g15 y15 Tryd.underlying53 Tryd.underlying3 cells3 cells53 h).cell g15 i hi
  replace h := h.tail
  have m16 : Tab W 16 [0, 0, 0, 0, 0, 44, 0, 0] := fun i hi => (Lib.tabIs_of_head (k := .i64) (zs := [0, 0, 0, 0, 0, 44, 0, 0]) g16 y16 Tryd.underlying53 Tryd.underlying3 cells3 cells53 h).cell g16 i hi
  replace h := h.tail
  have m7 : Tab W 7 [45, 47, 0, 0, 0, 48, 0, 0] := fun i hi => (Lib.tabIs_of_head (k := .i64) (zs := [45, 47, 0, 0, 0, 48, 0, 0]) g7 y7 Tryd.underlying53 Tryd.underlying3 cells3 cells53 h).cell g7 i hi
  replace h := h.tail
  have m8 : Tab W 8 [46, 0, 0, 0, 0, 49, 0, 0] := fun i hi => (Lib.tabIs_of_head (k := .i64) (zs := [46, 0, 0, 0, 0, 49, 0, 0]) g8 y8 Tryd.underlying53 Tryd.underlying3 cells3 cells53 h).cell g8 i hi
  replace h := h.tail
  have m9 : Tab W 9 [58, 0, 0, 0, 59, 60, 61, 62] := fun i hi => (Lib.tabIs_of_head (k := .i64) (zs := [58, 0, 0, 0, 59, 60, 61, 62]) g9 y9 Tryd.underlying53 Tryd.underlying3 cells3 cells53 h).cell g9 i hi
  replace h := h.tail
  have m10 : Tab W 10 [85, 86, 0, 0, 0, 0, 0, 0] := fun i hi => (Lib.tabIs_of_head (k := .i64) (zs := [85, 86, 0, 0, 0, 0, 0, 0]) g10 y10 Tryd.underlying53 Tryd.underlying3 cells3 cells53 h).cell g10 i hi
  replace h := h.tail
  have m17 : Tab W 17 [66, 65, 63, 64, 67, 0, 0, 0, 69, 0, 0, 0, 68, 0, 0, 0, 70, 0, 0, 0, 71, 0, 0, 0, 72, 0, 0, 0, 73, 0, 0, 0] := fun i hi => (Lib.tabIs_of_head (k := .i64) (zs := [66, 65, 63, 64, 67, 0, 0, 0, 69, 0, 0, 0, 68, 0, 0, 0, 70, 0, 0, 0, 71, 0, 0, 0, 72, 0, 0, 0, 73, 0, 0, 0]) g17 y17 Tryd.underlying60 Tryd.underlying3 cells3 cells60 h).cell g17 i hi
  replace h := h.tail
  have m18 : Tab W 18 [77, 76, 74, 75, 78, 0, 0, 0, 80, 0, 0, 0, 79, 0, 0, 0, 81, 0, 0, 0, 82, 0, 0, 0, 83, 0, 0, 0, 84, 0, 0, 0] := fun i hi => (Lib.tabIs_of_head (k := .i64) (zs := [77, 76, 74, 75, 78, 0, 0, 0, 80, 0, 0, 0, 79, 0, 0, 0, 81, 0, 0, 0, 82, 0, 0, 0, 83, 0, 0, 0, 84, 0, 0, 0]) g18 y18 Tryd.underlying60 Tryd.underlying3 cells3 cells60 h).cell g18 i hi
  replace h := h.tail
  exact ⟨m0, m1, m2, m3, m4, m5, m6, m7, m8, m9, m10, m11, m12, m13, m14, m15, m16, m17, m18⟩
set_option maxRecDepth 100000 in
/-- The door's own heap meets the condition. -/
theorem door_met (os : Os) (args : Array Value) : laidMetH Tryd.prog laidL ((World.doorLaid Tryd.prog 104 os).forCall (fun _ _ => 0) ⟨#[], args, []⟩).memory :=
  laidMetH_of_parts3 (fuel := 8) (laidMet_of_run' 8 (by kernel_rfl) (by kernel_rfl)) (by kernel_rfl) (by kernel_rfl)

section
variable {H : Type} {enc : TypeId × Value → H} {w : World} {base : Nat} {sp : Nat → Bool} {held : Bool}
theorem one24 : Go.Deep.oneCellFields Tryd.prog (Tryd.prog.fieldsOf 24) = true := by kernel_rfl
end
end Go.Proofs.YtjafiadcdickcaaDoor
