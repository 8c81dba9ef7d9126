/-
  NARROWER THAN 'FOR EVERY INPUT', by the rows' own cells (each row's printed sentence says how): CompExpands: laid · CompAll: laid · CompSound: laid · CompFar: laid.
  DERIVED. THE GIVEN ROWS OF THIS SEAT. 4 by the template 'for every input the law returns true; each argument reads behind the call as it read before'; 0 by the template 'total and deterministic' (their statements: YtfkecgidjicidaaDoorTotals.lean).
  GIVEN WITH THE SEED: the statements are not yours to turn. If you find one false, say at which input.
  Laid BY PROGRAM, IN A SANDBOX (cutbox-rows.mjs): the forced cells as the released guide's own fill.sh prints them over the translation b822a3daa8f54a0d… (all of the seat's roots in one cut). By AI agents, Wed Nov 11 2026. No macro, syntax, notation, axiom, sorry.
-/
import Derived.Test.YtfkecgidjicidaaDoorChecked
import GoSem.Claim
import GoSem.ClaimJoined
import GoSem.ClaimMapViews
import Derived.JoinedTies
import Derived.KernelRfl
namespace Go.Proofs.YtfkecgidjicidaaDoor
/- THE CELL 'sum', in the pinned program and in every row, IS THE sha256 OF THE DUMP (.gsa) THAT YtfkecgidjicidaaDoorProg.lean LOADS. Nothing in Lean hashes anything: it is a label: what it is worth is what the hold of that sum in a sandbox is worth. -/
noncomputable def Tryd.pinned : Pinned := { name := "ytfkecgidjicidaadoor", sum := "b822a3daa8f54a0d8d3c3e2d8618897e451d8c00b6a8b140fc813093f5a8f974", checked := Tryd.checked }
namespace Rows
def none {H : Type} : Left H := { results := [], args := [] }

/- WHAT THE LISTED PACKAGE-LEVEL VARIABLES READ AS WHEN THE CALL BEGINS. Each datum BY PROGRAM (the guide's laid-datum.mjs) off the statement by which the dump's own 'gosem.cut.vars' lays the variable. In a bare row this is a premise. The card (YtfkecgidjicidaaDoorCards.lean) ties it to the program's text. -/
def laid_marionette_comp_operators {H : Type} : DataW H := .agg [.agg [.lit (.int .i64 22), .lit (.int .i64 0), .lit (.int .i64 13), .lit (.int .i64 14), .lit (.int .i64 0), .lit (.int .i64 0), .lit (.int .i64 20), .lit (.int .i64 21)], .agg [.lit (.int .i64 22), .lit (.int .i64 41), .lit (.int .i64 22), .lit (.int .i64 1), .lit (.int .i64 27), .lit (.int .i64 3), .lit (.int .i64 5), .lit (.int .i64 6)], .agg [.lit (.int .i64 28), .lit (.int .i64 0), .lit (.int .i64 13), .lit (.int .i64 14), .lit (.int .i64 31), .lit (.int .i64 0), .lit (.int .i64 20), .lit (.int .i64 21)], .agg [.lit (.int .i64 0), .lit (.int .i64 0), .lit (.int .i64 0), .lit (.int .i64 0), .lit (.int .i64 0), .lit (.int .i64 0), .lit (.int .i64 0), .lit (.int .i64 0)]]
def laid_marionette_comp_reckoners {H : Type} : DataW H := .agg [.lit (.int .i64 32), .lit (.int .i64 36), .lit (.int .i64 39), .lit (.int .i64 40), .lit (.int .i64 46), .lit (.int .i64 45), .lit (.int .i64 0), .lit (.int .i64 0)]
def laid_marionette_inst_jumps {H : Type} : DataW H := .agg [.lit (.int .i64 4), .lit (.int .i64 0), .lit (.int .i64 0), .lit (.int .i64 0), .lit (.int .i64 0), .lit (.int .i64 0), .lit (.int .i64 0), .lit (.int .i64 0)]
def laid_marionette_inst_branches {H : Type} : DataW H := .agg [.lit (.int .i64 5), .lit (.int .i64 6), .lit (.int .i64 0), .lit (.int .i64 0), .lit (.int .i64 7), .lit (.int .i64 8), .lit (.int .i64 9), .lit (.int .i64 10)]
def laid_marionette_inst_loads {H : Type} : DataW H := .agg [.lit (.int .i64 11), .lit (.int .i64 12), .lit (.int .i64 13), .lit (.int .i64 14), .lit (.int .i64 15), .lit (.int .i64 16), .lit (.int .i64 17), .lit (.int .i64 0)]
def laid_marionette_inst_stores {H : Type} : DataW H := .agg [.lit (.int .i64 18), .lit (.int .i64 19), .lit (.int .i64 20), .lit (.int .i64 21), .lit (.int .i64 0), .lit (.int .i64 0), .lit (.int .i64 0), .lit (.int .i64 0)]
def laid_marionette_inst_immediates {H : Type} : DataW H := .agg [.lit (.int .i64 22), .lit (.int .i64 0), .lit (.int .i64 23), .lit (.int .i64 24), .lit (.int .i64 25), .lit (.int .i64 0), .lit (.int .i64 26), .lit (.int .i64 27)]
def laid_marionette_inst_shifts {H : Type} : DataW H := .agg [.lit (.int .i64 0), .lit (.int .i64 28), .lit (.int .i64 0), .lit (.int .i64 0), .lit (.int .i64 0), .lit (.int .i64 29), .lit (.int .i64 0), .lit (.int .i64 0)]
def laid_marionette_inst_otherShifts {H : Type} : DataW H := .agg [.lit (.int .i64 0), .lit (.int .i64 0), .lit (.int .i64 0), .lit (.int .i64 0), .lit (.int .i64 0), .lit (.int .i64 30), .lit (.int .i64 0), .lit (.int .i64 0)]
def laid_marionette_inst_plain {H : Type} : DataW H := .agg [.lit (.int .i64 31), .lit (.int .i64 33), .lit (.int .i64 34), .lit (.int .i64 35), .lit (.int .i64 36), .lit (.int .i64 37), .lit (.int .i64 39), .lit (.int .i64 40)]
def laid_marionette_inst_otherPlain {H : Type} : DataW H := .agg [.lit (.int .i64 32), .lit (.int .i64 0), .lit (.int .i64 0), .lit (.int .i64 0), .lit (.int .i64 0), .lit (.int .i64 38), .lit (.int .i64 0), .lit (.int .i64 0)]
def laid_marionette_inst_products {H : Type} : DataW H := .agg [.lit (.int .i64 50), .lit (.int .i64 51), .lit (.int .i64 52), .lit (.int .i64 53), .lit (.int .i64 54), .lit (.int .i64 55), .lit (.int .i64 56), .lit (.int .i64 57)]
def laid_marionette_inst_narrowImmediates {H : Type} : DataW H := .agg [.lit (.int .i64 41), .lit (.int .i64 0), .lit (.int .i64 0), .lit (.int .i64 0), .lit (.int .i64 0), .lit (.int .i64 0), .lit (.int .i64 0), .lit (.int .i64 0)]
def laid_marionette_inst_narrowShifts {H : Type} : DataW H := .agg [.lit (.int .i64 0), .lit (.int .i64 42), .lit (.int .i64 0), .lit (.int .i64 0), .lit (.int .i64 0), .lit (.int .i64 43), .lit (.int .i64 0), .lit (.int .i64 0)]
def laid_marionette_inst_otherNarrowShifts {H : Type} : DataW H := .agg [.lit (.int .i64 0), .lit (.int .i64 0), .lit (.int .i64 0), .lit (.int .i64 0), .lit (.int .i64 0), .lit (.int .i64 44), .lit (.int .i64 0), .lit (.int .i64 0)]
def laid_marionette_inst_narrowPlain {H : Type} : DataW H := .agg [.lit (.int .i64 45), .lit (.int .i64 47), .lit (.int .i64 0), .lit (.int .i64 0), .lit (.int .i64 0), .lit (.int .i64 48), .lit (.int .i64 0), .lit (.int .i64 0)]
def laid_marionette_inst_otherNarrowPlain {H : Type} : DataW H := .agg [.lit (.int .i64 46), .lit (.int .i64 0), .lit (.int .i64 0), .lit (.int .i64 0), .lit (.int .i64 0), .lit (.int .i64 49), .lit (.int .i64 0), .lit (.int .i64 0)]
def laid_marionette_inst_narrowProducts {H : Type} : DataW H := .agg [.lit (.int .i64 58), .lit (.int .i64 0), .lit (.int .i64 0), .lit (.int .i64 0), .lit (.int .i64 59), .lit (.int .i64 60), .lit (.int .i64 61), .lit (.int .i64 62)]
def laid_marionette_inst_fences {H : Type} : DataW H := .agg [.lit (.int .i64 85), .lit (.int .i64 86), .lit (.int .i64 0), .lit (.int .i64 0), .lit (.int .i64 0), .lit (.int .i64 0), .lit (.int .i64 0), .lit (.int .i64 0)]
def laid_marionette_inst_atomicWords {H : Type} : DataW H := .agg [.lit (.int .i64 66), .lit (.int .i64 65), .lit (.int .i64 63), .lit (.int .i64 64), .lit (.int .i64 67), .lit (.int .i64 0), .lit (.int .i64 0), .lit (.int .i64 0), .lit (.int .i64 69), .lit (.int .i64 0), .lit (.int .i64 0), .lit (.int .i64 0), .lit (.int .i64 68), .lit (.int .i64 0), .lit (.int .i64 0), .lit (.int .i64 0), .lit (.int .i64 70), .lit (.int .i64 0), .lit (.int .i64 0), .lit (.int .i64 0), .lit (.int .i64 71), .lit (.int .i64 0), .lit (.int .i64 0), .lit (.int .i64 0), .lit (.int .i64 72), .lit (.int .i64 0), .lit (.int .i64 0), .lit (.int .i64 0), .lit (.int .i64 73), .lit (.int .i64 0), .lit (.int .i64 0), .lit (.int .i64 0)]
def laid_marionette_inst_atomicDoubles {H : Type} : DataW H := .agg [.lit (.int .i64 77), .lit (.int .i64 76), .lit (.int .i64 74), .lit (.int .i64 75), .lit (.int .i64 78), .lit (.int .i64 0), .lit (.int .i64 0), .lit (.int .i64 0), .lit (.int .i64 80), .lit (.int .i64 0), .lit (.int .i64 0), .lit (.int .i64 0), .lit (.int .i64 79), .lit (.int .i64 0), .lit (.int .i64 0), .lit (.int .i64 0), .lit (.int .i64 81), .lit (.int .i64 0), .lit (.int .i64 0), .lit (.int .i64 0), .lit (.int .i64 82), .lit (.int .i64 0), .lit (.int .i64 0), .lit (.int .i64 0), .lit (.int .i64 83), .lit (.int .i64 0), .lit (.int .i64 0), .lit (.int .i64 0), .lit (.int .i64 84), .lit (.int .i64 0), .lit (.int .i64 0), .lit (.int .i64 0)]

/-- 'marionettelaw04.CompExpands': WHATEVER THE INPUT: true; the input reads as it did. -/
def compExpandsSpec : ChangeSpec := { name := "compExpands", fn := fun _ => fun
  | [d] => { results := [.lit (.bool true)], args := [d] }
  | _ => none }
def compExpandsRow : OpenClaim := { program := "ytfkecgidjicidaadoor", sum := "b822a3daa8f54a0d8d3c3e2d8618897e451d8c00b6a8b140fc813093f5a8f974", func := "marionette/marionettelaw04.CompExpands", spec := "compExpands", named := ["marionette/comp.operators", "marionette/comp.reckoners"], apart := false, laid := [("marionette/comp.operators", laid_marionette_comp_operators), ("marionette/comp.reckoners", laid_marionette_comp_reckoners)] }
def CompExpandsSaid : Prop := compExpandsRow.holds Tryd.pinned (OpenSpec.ofChange compExpandsSpec)

/-- ITS FALSE NEIGHBOUR: 'it returns false'. Refute it at one input. -/
def compExpandsWrong : ChangeSpec := { name := "compExpands", fn := fun _ => fun
  | [d] => { results := [.lit (.bool false)], args := [d] }
  | _ => none }
def CompExpandsWrongFalsely : Prop := compExpandsRow.holds Tryd.pinned (OpenSpec.ofChange compExpandsWrong)

/-- 'marionettelaw04.CompAll': WHATEVER THE INPUT: true; the input reads as it did. -/
def compAllSpec : ChangeSpec := { name := "compAll", fn := fun _ => fun
  | [d] => { results := [.lit (.bool true)], args := [d] }
  | _ => none }
def compAllRow : OpenClaim := { program := "ytfkecgidjicidaadoor", sum := "b822a3daa8f54a0d8d3c3e2d8618897e451d8c00b6a8b140fc813093f5a8f974", func := "marionette/marionettelaw04.CompAll", spec := "compAll", named := ["marionette/comp.operators", "marionette/comp.reckoners"], apart := false, laid := [("marionette/comp.operators", laid_marionette_comp_operators), ("marionette/comp.reckoners", laid_marionette_comp_reckoners)] }
def CompAllSaid : Prop := compAllRow.holds Tryd.pinned (OpenSpec.ofChange compAllSpec)

/-- ITS FALSE NEIGHBOUR: 'it returns false'. Refute it at one input. -/
def compAllWrong : ChangeSpec := { name := "compAll", fn := fun _ => fun
  | [d] => { results := [.lit (.bool false)], args := [d] }
  | _ => none }
def CompAllWrongFalsely : Prop := compAllRow.holds Tryd.pinned (OpenSpec.ofChange compAllWrong)

/-- 'marionettelaw04.CompSound': WHATEVER THE INPUT: true; the input reads as it did. -/
def compSoundSpec : ChangeSpec := { name := "compSound", fn := fun _ => fun
  | [d] => { results := [.lit (.bool true)], args := [d] }
  | _ => none }
def compSoundRow : OpenClaim := { program := "ytfkecgidjicidaadoor", sum := "b822a3daa8f54a0d8d3c3e2d8618897e451d8c00b6a8b140fc813093f5a8f974", func := "marionette/marionettelaw04.CompSound", spec := "compSound", unfollowed := true, recurses := true, named := ["marionette/comp.operators", "marionette/comp.reckoners", "marionette/inst.jumps", "marionette/inst.branches", "marionette/inst.loads", "marionette/inst.stores", "marionette/inst.immediates", "marionette/inst.shifts", "marionette/inst.otherShifts", "marionette/inst.plain", "marionette/inst.otherPlain", "marionette/inst.products", "marionette/inst.narrowImmediates", "marionette/inst.narrowShifts", "marionette/inst.otherNarrowShifts", "marionette/inst.narrowPlain", "marionette/inst.otherNarrowPlain", "marionette/inst.narrowProducts", "marionette/inst.atomicWords", "marionette/inst.atomicDoubles", "marionette/inst.fences"], apart := false, laid := [("marionette/comp.operators", laid_marionette_comp_operators), ("marionette/comp.reckoners", laid_marionette_comp_reckoners), ("marionette/inst.jumps", laid_marionette_inst_jumps), ("marionette/inst.branches", laid_marionette_inst_branches), ("marionette/inst.loads", laid_marionette_inst_loads), ("marionette/inst.stores", laid_marionette_inst_stores), ("marionette/inst.immediates", laid_marionette_inst_immediates), ("marionette/inst.shifts", laid_marionette_inst_shifts), ("marionette/inst.otherShifts", laid_marionette_inst_otherShifts), ("marionette/inst.plain", laid_marionette_inst_plain), ("marionette/inst.otherPlain", laid_marionette_inst_otherPlain), ("marionette/inst.products", laid_marionette_inst_products), ("marionette/inst.narrowImmediates", laid_marionette_inst_narrowImmediates), ("marionette/inst.narrowShifts", laid_marionette_inst_narrowShifts), ("marionette/inst.otherNarrowShifts", laid_marionette_inst_otherNarrowShifts), ("marionette/inst.narrowPlain", laid_marionette_inst_narrowPlain), ("marionette/inst.otherNarrowPlain", laid_marionette_inst_otherNarrowPlain), ("marionette/inst.narrowProducts", laid_marionette_inst_narrowProducts), ("marionette/inst.fences", laid_marionette_inst_fences), ("marionette/inst.atomicWords", laid_marionette_inst_atomicWords), ("marionette/inst.atomicDoubles", laid_marionette_inst_atomicDoubles)] }
def CompSoundSaid : Prop := compSoundRow.holds Tryd.pinned (OpenSpec.ofChange compSoundSpec)

/-- ITS FALSE NEIGHBOUR: 'it returns false'. Refute it at one input. -/
def compSoundWrong : ChangeSpec := { name := "compSound", fn := fun _ => fun
  | [d] => { results := [.lit (.bool false)], args := [d] }
  | _ => none }
def CompSoundWrongFalsely : Prop := compSoundRow.holds Tryd.pinned (OpenSpec.ofChange compSoundWrong)

/-- 'marionettelaw04.CompFar': WHATEVER THE INPUT: true; the input reads as it did. -/
def compFarSpec : ChangeSpec := { name := "compFar", fn := fun _ => fun
  | [d] => { results := [.lit (.bool true)], args := [d] }
  | _ => none }
def compFarRow : OpenClaim := { program := "ytfkecgidjicidaadoor", sum := "b822a3daa8f54a0d8d3c3e2d8618897e451d8c00b6a8b140fc813093f5a8f974", func := "marionette/marionettelaw04.CompFar", spec := "compFar", named := ["marionette/comp.operators", "marionette/comp.reckoners"], apart := false, laid := [("marionette/comp.operators", laid_marionette_comp_operators), ("marionette/comp.reckoners", laid_marionette_comp_reckoners)] }
def CompFarSaid : Prop := compFarRow.holds Tryd.pinned (OpenSpec.ofChange compFarSpec)

/-- ITS FALSE NEIGHBOUR: 'it returns false'. Refute it at one input. -/
def compFarWrong : ChangeSpec := { name := "compFar", fn := fun _ => fun
  | [d] => { results := [.lit (.bool false)], args := [d] }
  | _ => none }
def CompFarWrongFalsely : Prop := compFarRow.holds Tryd.pinned (OpenSpec.ofChange compFarWrong)

/- THE SECOND FORM. 'bulk': how many values and letters a reading holds, each counted each time it is reached (what is shared counts as often as it is met; a slice's spare places count too). A statement '..UptoSaid' is the law's where the arguments, and the package variables that the reading takes, are together of bulk at most 1048576: NARROWER than '..Said'. Prove '..Said' where nothing that the law and all that it calls make is longer than what came in: it says more and counts as full. Else prove '..UptoSaid'. A law counts once. -/
mutual
def uptoBulk {H : Type} : DataW H → Nat
  | .lit (.string bytes) => bytes.length + 1
  | .lit _ => 1
  | .nil => 1
  | .ptr d => uptoBulk d + 1
  | .slice elems spare => uptoBulkAll elems + uptoBulkAll spare + 1
  | .agg parts => uptoBulkAll parts + 1
  | .iface _ d => uptoBulk d + 1
  | .map entries => uptoBulkEntries entries + 1
  | .held _ => 1
def uptoBulkAll {H : Type} : List (DataW H) → Nat
  | [] => 0
  | d :: r => uptoBulk d + uptoBulkAll r
def uptoBulkEntries {H : Type} : List (Lit × DataW H) → Nat
  | [] => 0
  | x :: r => uptoBulkEntry x + uptoBulkEntries r
def uptoBulkEntry {H : Type} : Lit × DataW H → Nat
  | (.string bytes, d) => bytes.length + uptoBulk d + 1
  | (_, d) => uptoBulk d + 1
 end
def uptoSmall : (H : Type) → List (DataW H) → Bool := fun _ ds => decide (uptoBulkAll ds ≤ 1048576)
def OpenSpec.upto (s : _root_.Go.ChangeSpec) : _root_.Go.OpenSpec := { _root_.Go.OpenSpec.ofChange s with cond := some uptoSmall }

/-- 'marionettelaw04.CompExpands', WHERE WHAT IT READS IS OF BULK AT MOST 1048576: true; the input reads as it did. -/
def compExpandsUptoRow : OpenClaim := { program := "ytfkecgidjicidaadoor", sum := "b822a3daa8f54a0d8d3c3e2d8618897e451d8c00b6a8b140fc813093f5a8f974", func := "marionette/marionettelaw04.CompExpands", spec := "compExpands", named := ["marionette/comp.operators", "marionette/comp.reckoners"], apart := false, laid := [("marionette/comp.operators", laid_marionette_comp_operators), ("marionette/comp.reckoners", laid_marionette_comp_reckoners)], narrowed := true }
def CompExpandsUptoSaid : Prop := compExpandsUptoRow.holds Tryd.pinned (OpenSpec.upto compExpandsSpec)

/-- 'marionettelaw04.CompAll', WHERE WHAT IT READS IS OF BULK AT MOST 1048576: true; the input reads as it did. -/
def compAllUptoRow : OpenClaim := { program := "ytfkecgidjicidaadoor", sum := "b822a3daa8f54a0d8d3c3e2d8618897e451d8c00b6a8b140fc813093f5a8f974", func := "marionette/marionettelaw04.CompAll", spec := "compAll", named := ["marionette/comp.operators", "marionette/comp.reckoners"], apart := false, laid := [("marionette/comp.operators", laid_marionette_comp_operators), ("marionette/comp.reckoners", laid_marionette_comp_reckoners)], narrowed := true }
def CompAllUptoSaid : Prop := compAllUptoRow.holds Tryd.pinned (OpenSpec.upto compAllSpec)

/-- 'marionettelaw04.CompSound', WHERE WHAT IT READS IS OF BULK AT MOST 1048576: true; the input reads as it did. -/
def compSoundUptoRow : OpenClaim := { program := "ytfkecgidjicidaadoor", sum := "b822a3daa8f54a0d8d3c3e2d8618897e451d8c00b6a8b140fc813093f5a8f974", func := "marionette/marionettelaw04.CompSound", spec := "compSound", unfollowed := true, recurses := true, named := ["marionette/comp.operators", "marionette/comp.reckoners", "marionette/inst.jumps", "marionette/inst.branches", "marionette/inst.loads", "marionette/inst.stores", "marionette/inst.immediates", "marionette/inst.shifts", "marionette/inst.otherShifts", "marionette/inst.plain", "marionette/inst.otherPlain", "marionette/inst.products", "marionette/inst.narrowImmediates", "marionette/inst.narrowShifts", "marionette/inst.otherNarrowShifts", "marionette/inst.narrowPlain", "marionette/inst.otherNarrowPlain", "marionette/inst.narrowProducts", "marionette/inst.atomicWords", "marionette/inst.atomicDoubles", "marionette/inst.fences"], apart := false, laid := [("marionette/comp.operators", laid_marionette_comp_operators), ("marionette/comp.reckoners", laid_marionette_comp_reckoners), ("marionette/inst.jumps", laid_marionette_inst_jumps), ("marionette/inst.branches", laid_marionette_inst_branches), ("marionette/inst.loads", laid_marionette_inst_loads), ("marionette/inst.stores", laid_marionette_inst_stores), ("marionette/inst.immediates", laid_marionette_inst_immediates), ("marionette/inst.shifts", laid_marionette_inst_shifts), ("marionette/inst.otherShifts", laid_marionette_inst_otherShifts), ("marionette/inst.plain", laid_marionette_inst_plain), ("marionette/inst.otherPlain", laid_marionette_inst_otherPlain), ("marionette/inst.products", laid_marionette_inst_products), ("marionette/inst.narrowImmediates", laid_marionette_inst_narrowImmediates), ("marionette/inst.narrowShifts", laid_marionette_inst_narrowShifts), ("marionette/inst.otherNarrowShifts", laid_marionette_inst_otherNarrowShifts), ("marionette/inst.narrowPlain", laid_marionette_inst_narrowPlain), ("marionette/inst.otherNarrowPlain", laid_marionette_inst_otherNarrowPlain), ("marionette/inst.narrowProducts", laid_marionette_inst_narrowProducts), ("marionette/inst.fences", laid_marionette_inst_fences), ("marionette/inst.atomicWords", laid_marionette_inst_atomicWords), ("marionette/inst.atomicDoubles", laid_marionette_inst_atomicDoubles)], narrowed := true }
def CompSoundUptoSaid : Prop := compSoundUptoRow.holds Tryd.pinned (OpenSpec.upto compSoundSpec)

/-- 'marionettelaw04.CompFar', WHERE WHAT IT READS IS OF BULK AT MOST 1048576: true; the input reads as it did. -/
def compFarUptoRow : OpenClaim := { program := "ytfkecgidjicidaadoor", sum := "b822a3daa8f54a0d8d3c3e2d8618897e451d8c00b6a8b140fc813093f5a8f974", func := "marionette/marionettelaw04.CompFar", spec := "compFar", named := ["marionette/comp.operators", "marionette/comp.reckoners"], apart := false, laid := [("marionette/comp.operators", laid_marionette_comp_operators), ("marionette/comp.reckoners", laid_marionette_comp_reckoners)], narrowed := true }
def CompFarUptoSaid : Prop := compFarUptoRow.holds Tryd.pinned (OpenSpec.upto compFarSpec)

end Rows
end Go.Proofs.YtfkecgidjicidaaDoor
