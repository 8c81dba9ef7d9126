/-
  The library: cuts, trims, numbers; errors.Is.
-/
import Derived.Test.YtionnhjldcpmjaaGreatDoorAsmE
import Derived.Stop.Asserts
import Derived.LaidEql
set_option linter.unusedVariables false
set_option linter.unusedSimpArgs false
namespace Go.Proofs.YtionnhjldcpmjaaGreatDoor
open Go.RowKit

/-! The library's functions, as this text calls them. -/
theorem cut_any (l sep : List UInt8) (a : Addr) (w : World) (hE : Env a w) (h : l.length < 4294967281) :
    Calls Tryz.prog 35 #[str l, str sep] w fun e w' => e = .returned (.tuple #[str (Lib.cut l sep).1, str (Lib.cut l sep).2.1, .bool (Lib.cut l sep).2.2]) ∧ Bl w w' := by
  obtain ⟨m, hm⟩ := hE.ml
  refine (Tryz.strings_Cut ⟨l.toArray⟩ ⟨sep.toArray⟩ m w (by simpa [ByteArray.size] using h) hm).mono ?_
  rintro e w' ⟨rfl, n, rfl⟩
  exact ⟨rfl, (Bl.refl w).drewN n⟩
theorem trimS_any (l p : List UInt8) (w : World) (h : l.length < 4294967281) : Calls Tryz.prog 71 #[str l, str p] w fun e w' => e = .returned (str (Lib.trimSuffix l p)) ∧ w = w' := by
  refine (Tryz.strings_TrimSuffix ⟨l.toArray⟩ ⟨p.toArray⟩ w (by simp [ByteArray.size]; omega)).mono ?_
  rintro e w' ⟨rfl, rfl⟩
  exact ⟨rfl, rfl⟩
theorem trimP_any (l p : List UInt8) (w : World) : Calls Tryz.prog 73 #[str l, str p] w fun e w' => e = .returned (str (Lib.trimPrefix l p)) ∧ w = w' := by
  refine (Tryz.strings_TrimPrefix ⟨l.toArray⟩ ⟨p.toArray⟩ w).mono ?_
  rintro e w' ⟨rfl, rfl⟩
  exact ⟨rfl, rfl⟩
/-- The number that a text is read as. -/
def num (l : List UInt8) : Int := match Lib.atoiAll l with | .ok v => v | .range => Lib.atoiSat l | _ => 0
theorem num_bd (l : List UInt8) : -9223372036854775808 ≤ num l ∧ num l ≤ 9223372036854775807 := by
  unfold num
  split
  · rename_i v h; exact Lib.atoiAll_bounds h
  · unfold Lib.atoiSat; split <;> omega
  · omega
theorem atoi_any (l : List UInt8) (a : Addr) (w : World) (hE : Env a w) (h : l.length < 4294967281) :
    Calls Tryz.prog 72 #[str l] w fun e w' => ∃ ev, e = .returned (.tuple #[.int .i64 (num l), ev]) ∧ Bl w w' := by
  have hz : (⟨l.toArray⟩ : ByteArray).size ≤ 281474976710656 := by simp [ByteArray.size]; omega
  rcases hA : Lib.atoiAll l with v | _ | _
  · refine (Tryz.strconv_Atoi_ok ⟨l.toArray⟩ (by omega) v hA w).mono ?_
    rintro e w' ⟨rfl, h⟩
    refine ⟨_, by unfold num; rw [hA], ?_⟩
    rcases h with rfl | ⟨t, rfl⟩
    · exact Bl.refl _
    · exact Lib.bytesWorld_below _ _ _
  · obtain ⟨t, p, hv⟩ := hE.syn
    refine (Any.strconv_Atoi_syntax Tryz.laysC172 ⟨l.toArray⟩ hz hA _ w hv (Or.inr ⟨_, _, rfl⟩)).mono ?_
    rintro e w' ⟨N, rfl, -, -, hb⟩
    exact ⟨_, by unfold num; rw [hA], hb⟩
  · obtain ⟨t, p, hv⟩ := hE.rng
    refine (Tryz.strconv_Atoi_range ⟨l.toArray⟩ hz hA _ w hv (Or.inr ⟨_, _, rfl⟩)).mono ?_
    rintro e w' ⟨N, rfl, -, -, hb⟩
    exact ⟨_, by unfold num; rw [hA], hb⟩
/-! errors.Is, of nil and of a fault itself. -/
theorem isTypeOf (v : Value) (w : World) : (Extern.ReflectliteType.typeOf #[.iface 153 v]).run Tryz.prog w = .ok (.iface 110 (.agg #[.pointer (some ⟨27, 153, none⟩)])) w := by kernel_rfl
theorem isComparable (w : World) : (callFunc 135 #[.agg #[.pointer (some ⟨27, 153, none⟩)]]).run Tryz.prog w = .ok (Next.value (.bool true)) w := by
  rw [@run_callFunc_extern Tryz.prog 135 _ (Extern.ReflectliteType.method fun t => do Extern.Rtype.noPackHeld "Comparable" t; pure (.bool (← typeInfo t).comparable)) Tryz.func135 (by kernel_rfl) (by kernel_rfl) (by kernel_rfl) (by kernel_rfl)]
  have cT : ((Extern.ReflectliteType.method fun t => do Extern.Rtype.noPackHeld "Comparable" t; pure (.bool (← typeInfo t).comparable)) #[.agg #[.pointer (some ⟨27, 153, none⟩)]]).run Tryz.prog w = .ok (.bool true) w := by kernel_rfl
  rw [cT]
  rfl
theorem isMethodComparable (v : Value) (w : World) : (Go.method 290 110 v "Comparable").run Tryz.prog w = .ok (135, v) w := by kernel_rfl
theorem isComp : (Tryz.prog.info? 153).map (·.comparable) = some true := by kernel_rfl
theorem isSize : (Tryz.prog.info? 155).map (·.size) = some 1 := by kernel_rfl
set_option maxRecDepth 100000 in
set_option maxHeartbeats 1000000 in
/-- errors.Is(x, x), x a pointer to an errors.errorString. -/
theorem is_same (a : Addr) (w : World) :
    Calls Tryz.prog 27 #[.iface 153 (.pointer (some a)), .iface 153 (.pointer (some a))] w fun e w' => e = .returned (.bool true) ∧ w = w' := by
  obtain ⟨i, hi, hcmp⟩ := Option.map_eq_some_iff.1 isComp
  obtain ⟨j, hj, hjs⟩ := Option.map_eq_some_iff.1 isSize
  have h8 := @run_callFunc_extern Tryz.prog 46 _ Extern.ReflectliteType.typeOf Tryz.func46 (by kernel_rfl) (by kernel_rfl) (by kernel_rfl) (by kernel_rfl)
  have tT := isTypeOf
  have cT := isComparable
  have mR := isMethodComparable
  have heq := run_eql_iface_ptr_same (P := Tryz.prog) w a Tryz.underlying62 Tryz.underlying153 hi hcmp hj
  go_enter Tryz.func27, Tryz.ntmps27
  go_wp2
  refine wp_loop_rounds 1 ?_
  rw [rounds_succ]
  go_wp2
  go_ret
  exact ⟨rfl, rfl⟩
set_option maxHeartbeats 1000000 in
/-- errors.Is(nil, x). -/
theorem is_nil (b : Addr) (w : World) :
    Calls Tryz.prog 27 #[.nilIface, .iface 153 (.pointer (some b))] w fun e w' => e = .returned (.bool false) ∧ w = w' := by
  have hn := run_eql_iface_nil_left (P := Tryz.prog) w 153 (.pointer (some b)) Tryz.underlying62
  go_enter Tryz.func27, Tryz.ntmps27
  go_wp2
  go_ret
  exact ⟨rfl, rfl⟩

end Go.Proofs.YtionnhjldcpmjaaGreatDoor
