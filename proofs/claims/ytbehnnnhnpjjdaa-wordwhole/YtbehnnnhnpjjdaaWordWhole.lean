/-
  For all words a, b: quotient times divisor, and what is left, are a again, with a sign and without one, and without one less than b is left unless b = 0: the law WordWhole returns true. No condition.
-/
import Derived.Test.YtbehnnnhnpjjdaaRows
import Derived.Test.YtbehnnnhnpjjdaaWalksC
import Derived.WalkKit
import Derived.ProofKit
import Derived.OpenShut
import Derived.ShutString
namespace Go.Proofs.Ytbehnnnhnpjjdaa.wordWhole
open Go.ChangeShapes Go.WideShapes Go.ChangeAt Go.RowKit
open Go.ChangeMaps (open_string shut_string)
set_option linter.unusedVariables false

theorem own : ownKnob Try.prog.godebug = none := by kernel_rfl

theorem whole_u (a b : Int) (ha0 : 0 ≤ a) (ha : a < 18446744073709551616) (hb0 : 0 ≤ b) : IntKind.u64.wrap (IntKind.u64.wrap (divuI a b * b) + remuI a b) = a := by
  simp only [IntKind.wrap_u64]
  unfold divuI remuI
  by_cases h : b = 0
  · subst h; simp; omega
  · rw [if_neg h, if_neg h]
    have e := Int.emod_add_mul_ediv a b
    rw [Int.mul_comm b] at e
    generalize a / b * b = X at *
    omega
theorem whole_s (a b : Int) (ha0 : 0 ≤ a) (ha : a < 18446744073709551616) (hb0 : 0 ≤ b) (hb : b < 18446744073709551616) : IntKind.u64.wrap (IntKind.u64.wrap (divI a b * b) + remI a b) = a := by
  unfold divI remI
  simp only [IntKind.wrap_u64]
  by_cases h : b = 0
  · subst h; simp; omega
  · rw [if_neg h, if_neg h]
    have e := Int.tmod_add_mul_tdiv (wrap64 a) (wrap64 b)
    have m1 := Int.mul_emod (wrap64 (Int.tdiv (wrap64 a) (wrap64 b)) % 18446744073709551616) b 18446744073709551616
    have m2 := Int.mul_emod (Int.tdiv (wrap64 a) (wrap64 b)) (wrap64 b) 18446744073709551616
    have m3 : wrap64 (Int.tdiv (wrap64 a) (wrap64 b)) % 18446744073709551616 % 18446744073709551616 = Int.tdiv (wrap64 a) (wrap64 b) % 18446744073709551616 := by
      generalize Int.tdiv (wrap64 a) (wrap64 b) = q; unfold wrap64; omega
    have m4 : b % 18446744073709551616 = wrap64 b % 18446744073709551616 := by unfold wrap64; omega
    rw [m3, m4, ← m2] at m1
    rw [m1]
    rw [Int.mul_comm (wrap64 b)] at e
    generalize Int.tdiv (wrap64 a) (wrap64 b) * wrap64 b = X at *
    generalize Int.tmod (wrap64 a) (wrap64 b) = R at *
    unfold wrap64 at e
    omega
theorem rem_lt (a b : Int) (hb0 : 0 ≤ b) (h : ¬ b = 0) : remuI a b < b := by
  unfold remuI; rw [if_neg h]; exact Int.emod_lt_of_pos _ (by omega)

/-! ### The walk: the Go text returns true -/
theorem walk (a0 : Int) (a1 : Int) (w0 : (Lit.int .u64 a0).wf = true) (w1 : (Lit.int .u64 a1).wf = true) (w : World) :
    Calls Try.prog 7 #[.int .u64 a0, .int .u64 a1] w fun e w' => e = .returned (.bool true) ∧ Grown w w' := by
  obtain ⟨ha0, ha1⟩ := bounds_u64 w0
  obtain ⟨hb0, hb1⟩ := bounds_u64 w1
  have ha : a0 < 18446744073709551616 := by omega
  have hb : a1 < 18446744073709551616 := by omega
  clear ha1 hb1
  have e1 := whole_u a0 a1 ha0 ha hb0
  have e2 := whole_s a0 a1 ha0 ha hb0 hb
  have t1 : (IntKind.u64.wrap (IntKind.u64.wrap (divuI a0 a1 * a1) + remuI a0 a1) != a0) = false := by rw [e1]; exact bne_self_eq_false _
  have t2 : (IntKind.u64.wrap (IntKind.u64.wrap (divI a0 a1 * a1) + remI a0 a1) != a0) = false := by rw [e2]; exact bne_self_eq_false _
  clear e1 e2
  by_cases hz : a1 = 0
  · have hz2 : (a1 == 0) = true := beq_iff_eq.2 hz
    clear hz
    go_enter Try.func7, Try.ntmps7
    go_wp2_with fail
    refine (divu_any _ _ _ ha0 ha hb0).mono ?_
    rintro e w' ⟨rfl, rfl⟩
    go_wp2_with fail
    refine (remu_any _ _ _ ha0 ha hb0).mono ?_
    rintro e w' ⟨rfl, rfl⟩
    go_wp2_with fail
    refine (div_any _ _ _ hb0 hb).mono ?_
    rintro e w' ⟨rfl, rfl⟩
    go_wp2_with fail
    refine (rem_any _ _ _ hb0 hb).mono ?_
    rintro e w' ⟨rfl, rfl⟩
    go_wp2_with fail
    refine (answers_any _).mono ?_
    rintro e w' ⟨rfl, rfl⟩
    go_wp2
    go_ret
    exact ⟨rfl, Grown.refl _⟩
  · have hz2 : (a1 == 0) = false := beq_eq_false_iff_ne.2 hz
    have hlt := rem_lt a0 a1 hb0 hz
    clear hz
    go_enter Try.func7, Try.ntmps7
    go_wp2_with fail
    refine (divu_any _ _ _ ha0 ha hb0).mono ?_
    rintro e w' ⟨rfl, rfl⟩
    go_wp2_with fail
    refine (remu_any _ _ _ ha0 ha hb0).mono ?_
    rintro e w' ⟨rfl, rfl⟩
    go_wp2_with fail
    refine (div_any _ _ _ hb0 hb).mono ?_
    rintro e w' ⟨rfl, rfl⟩
    go_wp2_with fail
    refine (rem_any _ _ _ hb0 hb).mono ?_
    rintro e w' ⟨rfl, rfl⟩
    go_wp2_with fail
    refine (answers_any _).mono ?_
    rintro e w' ⟨rfl, rfl⟩
    go_wp2_with fail
    refine (remu_any _ _ _ ha0 ha hb0).mono ?_
    rintro e w' ⟨rfl, rfl⟩
    go_wp2
    go_ret
    exact ⟨rfl, Grown.refl _⟩

/-! ### The row's step -/
set_option maxRecDepth 100000 in
theorem lifted (os : Os) (started : os.Started) (H : Type) (enc : TypeId × Value → H) :
    ReturnsInHanded {} Try.checked os 7 .any (Rows.wordWholeSpec.pre6 enc Try.prog Try.f7 Rows.wordWholeRow.domain false) (Rows.wordWholeSpec.post enc Try.prog Try.f7 false true false false) := by
  refine returnsInHanded_of_change (C := Try.checked) own started (by kernel_rfl) Try.func7
    (ChangeSpec.witness6 (enc := enc) (C := Try.checked) false ⟨#[], #[.int .u64 0, .int .u64 0], []⟩ 8 (by kernel_rfl) (by kernel_rfl) (by kernel_rfl) (by kernel_rfl)) ?_
  intro W base args ds gs before hval0 hW hcnd _
  have hval : ∀ (j : Nat) t v, Try.f7.params[j]? = some t → args[j]? = some v → Value.okWide Try.prog W .any base t v := hval0
  have hW' := hW
  obtain ⟨p, q, hA0, hV, rfl, hfz, hnd⟩ := hW
  have hA : DataW.TrodAll enc Try.prog W 0 (fun _ => true) true Try.f7.params.toList args.toList ds p := hA0
  rw [Try.params7] at hA hval
  obtain ⟨v0, vs0, d0, ds0, p0, q0, hargs, rfl, rfl, h0, r0⟩ := trodAll_cons hA
  obtain ⟨v1, vs1, d1, ds1, p1, q1, rfl, rfl, rfl, h1, r1⟩ := trodAll_cons r0
  obtain ⟨rfl, rfl, rfl⟩ := trodAll_nil r1
  obtain rfl : args = #[v0, v1] := by cases args; simp_all
  obtain ⟨rfl, rfl⟩ := trodVars_none hV
  obtain ⟨a0, rfl, rfl, rfl, w0⟩ := open_int Try.underlying22 (hval 0 22 v0 rfl rfl) h0
  obtain ⟨a1, rfl, rfl, rfl, w1⟩ := open_int Try.underlying22 (hval 1 22 v1 rfl rfl) h1
  clear hA0 hval0
  simp only [List.append_nil] at hW'
  refine (walk a0 a1 w0 w1 W).mono fun e W' ⟨he, hg⟩ => ?_
  subst he
  exact ⟨_, rfl, post_of_same (pa := []) (pv := []) hW' (fun _ _ _ => (trodAll_cons_mk (shut_bool Try.underlying4 _) trodAll_mk0)) (fun sp _ => (trodAll_cons_mk (shut_int Try.underlying22 w0) (trodAll_cons_mk (shut_int Try.underlying22 w1) trodAll_mk0))) (fun _ _ => rfl) rfl
    (hg.frame _) hg.2.1 (ok_one (by kernel_rfl) rfl (okWide_bool_mk Try.underlying4 _))⟩

theorem over : Rows.wordWholeRow.holds Try.pinned (OpenSpec.ofChange Rows.wordWholeSpec) :=
  OpenClaim.holds_of_wide 7 Try.f7 rfl rfl rfl rfl rfl rfl rfl ⟨rfl, rfl, rfl, rfl, rfl⟩ rfl rfl rfl rfl rfl (by kernel_rfl) Try.func7 (by kernel_rfl)
    (of_decide_eq_true (by kernel_rfl)) (by unfold Func.isWrapper; first | (rw [if_pos (by decide +kernel)]; kernel_rfl) | (rw [if_neg (by decide +kernel)]; exact ⟨rfl, rfl⟩))
    (fun os started H enc _ => lifted os started H enc)

/-- The statement. -/
theorem proved : Rows.WordWholeSaid :=
  over
end Go.Proofs.Ytbehnnnhnpjjdaa.wordWhole

namespace Go.Proofs.Ytbehnnnhnpjjdaa
/-- The statement, proved. -/
theorem wordWhole_holds : Rows.WordWholeSaid := wordWhole.proved
#print axioms wordWhole_holds
end Go.Proofs.Ytbehnnnhnpjjdaa
