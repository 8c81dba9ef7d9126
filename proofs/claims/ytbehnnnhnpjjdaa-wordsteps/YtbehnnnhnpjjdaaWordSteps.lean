/-
  For every word x and all a, b: filling x by the sign of p bits and then of q bits (p, q from 1 to 64, taken from a, b) is filling it by the sign of the fewer of both: the law WordSteps returns true. No condition.
-/
import Derived.Test.YtbehnnnhnpjjdaaRows
import Derived.Test.YtbehnnnhnpjjdaaWalksC
import Derived.WalkKit
import Derived.ProofKit
import Derived.OpenShut
import Derived.ShutString
namespace Go.Proofs.Ytbehnnnhnpjjdaa.wordSteps
open Go.ChangeShapes Go.WideShapes Go.ChangeAt Go.RowKit
open Go.ChangeMaps (open_string shut_string)
set_option linter.unusedVariables false

theorem own : ownKnob Try.prog.godebug = none := by kernel_rfl

theorem sext_steps (x p q : Int) (hp : 1 ≤ p) (hp' : p ≤ 64) (hq : 1 ≤ q) (hq' : q ≤ 64) : sextI (sextI x p) q = sextI x (min p q) := by
  unfold sextI
  rw [if_pos ⟨hq, hq'⟩, if_pos ⟨hp, hp'⟩, if_pos ⟨by omega, by omega⟩, sx_steps x p.toNat q.toNat (by omega) (by omega) (by omega) (by omega)]
  congr 1
  omega

/-! ### The walk: the Go text returns true -/
theorem walk (a0 : Int) (a1 : Int) (a2 : Int) (w0 : (Lit.int .u64 a0).wf = true) (w1 : (Lit.int .u8 a1).wf = true) (w2 : (Lit.int .u8 a2).wf = true) (w : World) :
    Calls Try.prog 9 #[.int .u64 a0, .int .u8 a1, .int .u8 a2] w fun e w' => e = .returned (.bool true) ∧ Grown w w' := by
  have b1 := bounds_u8 w1
  have b2 := bounds_u8 w2
  have st := sext_steps a0 (a1 % 64 + 1) (a2 % 64 + 1) (by omega) (by omega) (by omega) (by omega)
  by_cases hlt : a2 % 64 + 1 < a1 % 64 + 1
  · have hE : (sextI (sextI a0 (a1 % 64 + 1)) (a2 % 64 + 1) == sextI a0 (a2 % 64 + 1)) = true := by rw [st, show min (a1 % 64 + 1) (a2 % 64 + 1) = a2 % 64 + 1 by omega]; exact beq_self_eq_true _
    clear st
    go_enter Try.func9, Try.ntmps9
    go_wp2_with fail
    refine (answers_any _).mono ?_
    rintro e w' ⟨rfl, rfl⟩
    go_wp2_with fail
    refine (sext_any _ _ _).mono ?_
    rintro e w' ⟨rfl, rfl⟩
    go_wp2_with fail
    refine (sext_any _ _ _).mono ?_
    rintro e w' ⟨rfl, rfl⟩
    go_wp2_with fail
    refine (sext_any _ _ _).mono ?_
    rintro e w' ⟨rfl, rfl⟩
    go_wp2
    go_ret
    exact ⟨rfl, Grown.refl _⟩
  · have hE : (sextI (sextI a0 (a1 % 64 + 1)) (a2 % 64 + 1) == sextI a0 (a1 % 64 + 1)) = true := by rw [st, show min (a1 % 64 + 1) (a2 % 64 + 1) = a1 % 64 + 1 by omega]; exact beq_self_eq_true _
    clear st
    go_enter Try.func9, Try.ntmps9
    go_wp2_with fail
    refine (answers_any _).mono ?_
    rintro e w' ⟨rfl, rfl⟩
    go_wp2_with fail
    refine (sext_any _ _ _).mono ?_
    rintro e w' ⟨rfl, rfl⟩
    go_wp2_with fail
    refine (sext_any _ _ _).mono ?_
    rintro e w' ⟨rfl, rfl⟩
    go_wp2_with fail
    refine (sext_any _ _ _).mono ?_
    rintro e w' ⟨rfl, rfl⟩
    go_wp2
    go_ret
    exact ⟨rfl, Grown.refl _⟩

/-! ### The row's step -/
set_option maxRecDepth 100000 in
theorem lifted (os : Os) (started : os.Started) (H : Type) (enc : TypeId × Value → H) :
    ReturnsInHanded {} Try.checked os 9 .any (Rows.wordStepsSpec.pre6 enc Try.prog Try.f9 Rows.wordStepsRow.domain false) (Rows.wordStepsSpec.post enc Try.prog Try.f9 false true false false) := by
  refine returnsInHanded_of_change (C := Try.checked) own started (by kernel_rfl) Try.func9
    (ChangeSpec.witness6 (enc := enc) (C := Try.checked) false ⟨#[], #[.int .u64 0, .int .u8 0, .int .u8 0], []⟩ 8 (by kernel_rfl) (by kernel_rfl) (by kernel_rfl) (by kernel_rfl)) ?_
  intro W base args ds gs before hval0 hW hcnd _
  have hval : ∀ (j : Nat) t v, Try.f9.params[j]? = some t → args[j]? = some v → Value.okWide Try.prog W .any base t v := hval0
  have hW' := hW
  obtain ⟨p, q, hA0, hV, rfl, hfz, hnd⟩ := hW
  have hA : DataW.TrodAll enc Try.prog W 0 (fun _ => true) true Try.f9.params.toList args.toList ds p := hA0
  rw [Try.params9] at hA hval
  obtain ⟨v0, vs0, d0, ds0, p0, q0, hargs, rfl, rfl, h0, r0⟩ := trodAll_cons hA
  obtain ⟨v1, vs1, d1, ds1, p1, q1, rfl, rfl, rfl, h1, r1⟩ := trodAll_cons r0
  obtain ⟨v2, vs2, d2, ds2, p2, q2, rfl, rfl, rfl, h2, r2⟩ := trodAll_cons r1
  obtain ⟨rfl, rfl, rfl⟩ := trodAll_nil r2
  obtain rfl : args = #[v0, v1, v2] := by cases args; simp_all
  obtain ⟨rfl, rfl⟩ := trodVars_none hV
  obtain ⟨a0, rfl, rfl, rfl, w0⟩ := open_int Try.underlying22 (hval 0 22 v0 rfl rfl) h0
  obtain ⟨a1, rfl, rfl, rfl, w1⟩ := open_int Try.underlying5 (hval 1 5 v1 rfl rfl) h1
  obtain ⟨a2, rfl, rfl, rfl, w2⟩ := open_int Try.underlying5 (hval 2 5 v2 rfl rfl) h2
  clear hA0 hval0
  simp only [List.append_nil] at hW'
  refine (walk a0 a1 a2 w0 w1 w2 W).mono fun e W' ⟨he, hg⟩ => ?_
  subst he
  exact ⟨_, rfl, post_of_same (pa := []) (pv := []) hW' (fun _ _ _ => (trodAll_cons_mk (shut_bool Try.underlying4 _) trodAll_mk0)) (fun sp _ => (trodAll_cons_mk (shut_int Try.underlying22 w0) (trodAll_cons_mk (shut_int Try.underlying5 w1) (trodAll_cons_mk (shut_int Try.underlying5 w2) trodAll_mk0)))) (fun _ _ => rfl) rfl
    (hg.frame _) hg.2.1 (ok_one (by kernel_rfl) rfl (okWide_bool_mk Try.underlying4 _))⟩

theorem over : Rows.wordStepsRow.holds Try.pinned (OpenSpec.ofChange Rows.wordStepsSpec) :=
  OpenClaim.holds_of_wide 9 Try.f9 rfl rfl rfl rfl rfl rfl rfl ⟨rfl, rfl, rfl, rfl, rfl⟩ rfl rfl rfl rfl rfl (by kernel_rfl) Try.func9 (by kernel_rfl)
    (of_decide_eq_true (by kernel_rfl)) (by unfold Func.isWrapper; first | (rw [if_pos (by decide +kernel)]; kernel_rfl) | (rw [if_neg (by decide +kernel)]; exact ⟨rfl, rfl⟩))
    (fun os started H enc _ => lifted os started H enc)

/-- The statement. -/
theorem proved : Rows.WordStepsSaid :=
  over
end Go.Proofs.Ytbehnnnhnpjjdaa.wordSteps

namespace Go.Proofs.Ytbehnnnhnpjjdaa
/-- The statement, proved. -/
theorem wordSteps_holds : Rows.WordStepsSaid := wordSteps.proved
#print axioms wordSteps_holds
end Go.Proofs.Ytbehnnnhnpjjdaa
