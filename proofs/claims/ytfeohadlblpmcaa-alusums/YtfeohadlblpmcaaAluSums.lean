/-
  For all words a, b: a difference undoes a sum, exclusive or undoes itself, and just one of less, more and equal holds, with a sign and without one: the law AluSums returns true. No condition.
-/
import Derived.Test.YtfeohadlblpmcaaRows
import Derived.Test.YtfeohadlblpmcaaAluM
import Derived.WalkKit
import Derived.ProofKit
import Derived.OpenShut
import Derived.ShutString
namespace Go.Proofs.Ytfeohadlblpmcaa.aluSums
open Go.ChangeShapes Go.WideShapes Go.ChangeAt Go.RowKit
open Go.ChangeMaps (open_string shut_string)
set_option linter.unusedVariables false

theorem own : ownKnob Try.prog.godebug = none := by kernel_rfl

theorem xor_back (a b : Int) (ha0 : 0 ≤ a) (ha : a < 18446744073709551616) (hb0 : 0 ≤ b) (hb : b < 18446744073709551616) : bits .xor .u64 (bits .xor .u64 a b) b = a := by
  obtain ⟨A, rfl⟩ := Int.eq_ofNat_of_zero_le ha0
  obtain ⟨B, rfl⟩ := Int.eq_ofNat_of_zero_le hb0
  rw [u64_xor_nat A B (by omega) (by omega), u64_xor_nat _ B (Nat.xor_lt_two_pow (n := 64) (by omega) (by omega)) (by omega), Nat.xor_assoc, Nat.xor_self, Nat.xor_zero]
theorem xor_bd (a b : Int) (ha0 : 0 ≤ a) (ha : a < 18446744073709551616) (hb0 : 0 ≤ b) (hb : b < 18446744073709551616) : 0 ≤ bits .xor .u64 a b ∧ bits .xor .u64 a b < 18446744073709551616 := by
  obtain ⟨A, rfl⟩ := Int.eq_ofNat_of_zero_le ha0
  obtain ⟨B, rfl⟩ := Int.eq_ofNat_of_zero_le hb0
  rw [u64_xor_nat A B (by omega) (by omega)]
  have := Nat.xor_lt_two_pow (n := 64) (x := A) (y := B) (by omega) (by omega)
  omega
theorem one_bd (c : Bool) : 0 ≤ oneI c ∧ oneI c ≤ 1 := by cases c <;> decide

/-! ### The walk: the Go text returns true -/
set_option maxHeartbeats 1000000 in
theorem walk (a0 : Int) (a1 : Int) (w0 : (Lit.int .u64 a0).wf = true) (w1 : (Lit.int .u64 a1).wf = true) (w : World) :
    Calls Try.prog 7 #[.int .u64 a0, .int .u64 a1] w fun e w' => e = .returned (.bool true) ∧ Grown w w' := by
  obtain ⟨ha0, ha1⟩ := bounds_u64 w0
  obtain ⟨hb0, hb1⟩ := bounds_u64 w1
  have ha : a0 < 18446744073709551616 := by omega
  have hb : a1 < 18446744073709551616 := by omega
  clear ha1 hb1
  have t1 : (IntKind.u64.wrap (IntKind.u64.wrap (a0 + a1) - a1) == a0) = true := by
    rw [beq_iff_eq]; simp only [IntKind.wrap_u64]; omega
  have t2 := xor_back a0 a1 ha0 ha hb0 hb
  have t3 : (bits .xor .u64 (bits .xor .u64 a0 a1) a1 == a0) = true := by rw [beq_iff_eq]; exact t2
  clear t2
  have hx := xor_bd a0 a1 ha0 ha hb0 hb
  have hs : 0 ≤ IntKind.u64.wrap (a0 + a1) ∧ IntKind.u64.wrap (a0 + a1) < 18446744073709551616 := by rw [IntKind.wrap_u64]; omega
  by_cases he : a0 = a1
  · have hee : (a0 == a1) = true := beq_iff_eq.2 he
    have l1 : oneI (decide (wrap64 a0 < wrap64 a1)) = 0 := by subst he; unfold oneI; rw [decide_eq_false (Int.lt_irrefl _)]; rfl
    have l2 : oneI (decide (wrap64 a1 < wrap64 a0)) = 0 := by subst he; unfold oneI; rw [decide_eq_false (Int.lt_irrefl _)]; rfl
    have l3 : oneI (decide (a0 < a1)) = 0 := by subst he; unfold oneI; rw [decide_eq_false (Int.lt_irrefl _)]; rfl
    have l4 : oneI (decide (a1 < a0)) = 0 := by subst he; unfold oneI; rw [decide_eq_false (Int.lt_irrefl _)]; rfl
    clear he
    have L1 := Lib.hid l1; clear l1
    have L2 := Lib.hid l2; clear l2
    have L3 := Lib.hid l3; clear l3
    have L4 := Lib.hid l4; clear l4
    go_enter Try.func7, Try.ntmps7
    go_wp2_with fail
    refine (do_yes 31 a0 a1 _ (by decide) ha0 ha hb0 hb).mono ?_
    rintro e w' ⟨rfl, rfl⟩
    rw [show doV 31 a0 a1 = IntKind.u64.wrap (a0 + a1) from rfl]
    go_wp2_with fail
    refine (do_yes 32 _ a1 _ (by decide) hs.1 hs.2 hb0 hb).mono ?_
    rintro e w' ⟨rfl, rfl⟩
    rw [show doV 32 (IntKind.u64.wrap (a0 + a1)) a1 = IntKind.u64.wrap (IntKind.u64.wrap (a0 + a1) - a1) from rfl]
    go_wp2_with fail
    refine (do_yes 34 a0 a1 _ (by decide) ha0 ha hb0 hb).mono ?_
    rintro e w' ⟨rfl, rfl⟩
    rw [show doV 34 a0 a1 = oneI (decide (wrap64 a0 < wrap64 a1)) from rfl]
    rw [L1.out]
    go_wp2_with fail
    refine (do_yes 34 a1 a0 _ (by decide) hb0 hb ha0 ha).mono ?_
    rintro e w' ⟨rfl, rfl⟩
    rw [show doV 34 a1 a0 = oneI (decide (wrap64 a1 < wrap64 a0)) from rfl]
    rw [L2.out]
    go_wp2_with fail
    refine (do_yes 35 a0 a1 _ (by decide) ha0 ha hb0 hb).mono ?_
    rintro e w' ⟨rfl, rfl⟩
    rw [show doV 35 a0 a1 = oneI (decide (a0 < a1)) from rfl]
    rw [L3.out]
    go_wp2_with fail
    refine (do_yes 35 a1 a0 _ (by decide) hb0 hb ha0 ha).mono ?_
    rintro e w' ⟨rfl, rfl⟩
    rw [show doV 35 a1 a0 = oneI (decide (a1 < a0)) from rfl]
    rw [L4.out]
    go_wp2_with fail
    refine (do_yes 36 a0 a1 _ (by decide) ha0 ha hb0 hb).mono ?_
    rintro e w' ⟨rfl, rfl⟩
    rw [show doV 36 a0 a1 = bits .xor .u64 a0 a1 from rfl]
    go_wp2_with fail
    refine (do_yes 36 _ a1 _ (by decide) hx.1 hx.2 hb0 hb).mono ?_
    rintro e w' ⟨rfl, rfl⟩
    rw [show doV 36 (bits .xor .u64 a0 a1) a1 = bits .xor .u64 (bits .xor .u64 a0 a1) a1 from rfl]
    go_wp2_with fail
    refine (answers2_any _).mono ?_
    rintro e w' ⟨rfl, rfl⟩
    go_wp2
    go_ret
    exact ⟨rfl, Grown.refl _⟩
  · have hee : (a0 == a1) = false := beq_eq_false_iff_ne.2 he
    have s1 : IntKind.u64.wrap (oneI (decide (wrap64 a0 < wrap64 a1)) + oneI (decide (wrap64 a1 < wrap64 a0))) = 1 := by
      rw [IntKind.wrap_u64]; unfold oneI wrap64; split <;> split <;> rename_i p q <;> simp at p q <;> omega
    have s2 : IntKind.u64.wrap (oneI (decide (a0 < a1)) + oneI (decide (a1 < a0))) = 1 := by
      rw [IntKind.wrap_u64]; unfold oneI; split <;> split <;> rename_i p q <;> simp at p q <;> omega
    have hl1 := one_bd (decide (wrap64 a0 < wrap64 a1))
    have hl2 := one_bd (decide (wrap64 a1 < wrap64 a0))
    have hl3 := one_bd (decide (a0 < a1))
    have hl4 := one_bd (decide (a1 < a0))
    rw [IntKind.wrap_u64] at s1 s2
    generalize h1 : oneI (decide (wrap64 a0 < wrap64 a1)) = l1 at *
    generalize h2 : oneI (decide (wrap64 a1 < wrap64 a0)) = l2 at *
    generalize h3 : oneI (decide (a0 < a1)) = l3 at *
    generalize h4 : oneI (decide (a1 < a0)) = l4 at *
    have L1 := Lib.hid h1; clear h1
    have L2 := Lib.hid h2; clear h2
    have L3 := Lib.hid h3; clear h3
    have L4 := Lib.hid h4; clear h4
    have s3 : l1 + l2 = 1 := by omega
    have s4 : l3 + l4 = 1 := by omega
    clear he s1 s2
    go_enter Try.func7, Try.ntmps7
    go_wp2_with fail
    refine (do_yes 31 a0 a1 _ (by decide) ha0 ha hb0 hb).mono ?_
    rintro e w' ⟨rfl, rfl⟩
    rw [show doV 31 a0 a1 = IntKind.u64.wrap (a0 + a1) from rfl]
    go_wp2_with fail
    refine (do_yes 32 _ a1 _ (by decide) hs.1 hs.2 hb0 hb).mono ?_
    rintro e w' ⟨rfl, rfl⟩
    rw [show doV 32 (IntKind.u64.wrap (a0 + a1)) a1 = IntKind.u64.wrap (IntKind.u64.wrap (a0 + a1) - a1) from rfl]
    go_wp2_with fail
    refine (do_yes 34 a0 a1 _ (by decide) ha0 ha hb0 hb).mono ?_
    rintro e w' ⟨rfl, rfl⟩
    rw [show doV 34 a0 a1 = oneI (decide (wrap64 a0 < wrap64 a1)) from rfl]
    rw [L1.out]
    go_wp2_with fail
    refine (do_yes 34 a1 a0 _ (by decide) hb0 hb ha0 ha).mono ?_
    rintro e w' ⟨rfl, rfl⟩
    rw [show doV 34 a1 a0 = oneI (decide (wrap64 a1 < wrap64 a0)) from rfl]
    rw [L2.out]
    go_wp2_with fail
    refine (do_yes 35 a0 a1 _ (by decide) ha0 ha hb0 hb).mono ?_
    rintro e w' ⟨rfl, rfl⟩
    rw [show doV 35 a0 a1 = oneI (decide (a0 < a1)) from rfl]
    rw [L3.out]
    go_wp2_with fail
    refine (do_yes 35 a1 a0 _ (by decide) hb0 hb ha0 ha).mono ?_
    rintro e w' ⟨rfl, rfl⟩
    rw [show doV 35 a1 a0 = oneI (decide (a1 < a0)) from rfl]
    rw [L4.out]
    go_wp2_with fail
    refine (do_yes 36 a0 a1 _ (by decide) ha0 ha hb0 hb).mono ?_
    rintro e w' ⟨rfl, rfl⟩
    rw [show doV 36 a0 a1 = bits .xor .u64 a0 a1 from rfl]
    go_wp2_with fail
    refine (do_yes 36 _ a1 _ (by decide) hx.1 hx.2 hb0 hb).mono ?_
    rintro e w' ⟨rfl, rfl⟩
    rw [show doV 36 (bits .xor .u64 a0 a1) a1 = bits .xor .u64 (bits .xor .u64 a0 a1) a1 from rfl]
    go_wp2_with fail
    refine (answers2_any _).mono ?_
    rintro e w' ⟨rfl, rfl⟩
    go_wp2
    go_ret
    exact ⟨rfl, Grown.refl _⟩

/-! ### The row's step -/
set_option maxRecDepth 100000 in
theorem lifted (os : Os) (started : os.Started) (H : Type) (enc : TypeId × Value → H) :
    ReturnsInHanded {} Try.checked os 7 .any (Rows.aluSumsSpec.pre6 enc Try.prog Try.f7 Rows.aluSumsRow.domain false) (Rows.aluSumsSpec.post enc Try.prog Try.f7 false true false false) := by
  refine returnsInHanded_of_change (C := Try.checked) own started (by kernel_rfl) Try.func7
    (ChangeSpec.witness6 (enc := enc) (C := Try.checked) false ⟨#[], #[.int .u64 0, .int .u64 0], []⟩ 8 (by kernel_rfl) (by kernel_rfl) (by kernel_rfl) (by kernel_rfl)) ?_
  intro W base args ds gs before hval0 hW hcnd _
  have hval : ∀ (j : Nat) t v, Try.f7.params[j]? = some t → args[j]? = some v → Value.okWide Try.prog W .any base t v := hval0
  have hW' := hW
  obtain ⟨p, q, hA0, hV, rfl, hfz, hnd⟩ := hW
  have hA : DataW.TrodAll enc Try.prog W 0 (fun _ => true) true Try.f7.params.toList args.toList ds p := hA0
  rw [Try.params7] at hA hval
  obtain ⟨v0, vs0, d0, ds0, p0, q0, hargs, rfl, rfl, h0, r0⟩ := trodAll_cons hA
  obtain ⟨v1, vs1, d1, ds1, p1, q1, rfl, rfl, rfl, h1, r1⟩ := trodAll_cons r0
  obtain ⟨rfl, rfl, rfl⟩ := trodAll_nil r1
  obtain rfl : args = #[v0, v1] := by cases args; simp_all
  obtain ⟨rfl, rfl⟩ := trodVars_none hV
  obtain ⟨a0, rfl, rfl, rfl, w0⟩ := open_int Try.underlying22 (hval 0 22 v0 rfl rfl) h0
  obtain ⟨a1, rfl, rfl, rfl, w1⟩ := open_int Try.underlying22 (hval 1 22 v1 rfl rfl) h1
  clear hA0 hval0
  simp only [List.append_nil] at hW'
  refine (walk a0 a1 w0 w1 W).mono fun e W' ⟨he, hg⟩ => ?_
  subst he
  exact ⟨_, rfl, post_of_same (pa := []) (pv := []) hW' (fun _ _ _ => (trodAll_cons_mk (shut_bool Try.underlying4 _) trodAll_mk0)) (fun sp _ => (trodAll_cons_mk (shut_int Try.underlying22 w0) (trodAll_cons_mk (shut_int Try.underlying22 w1) trodAll_mk0))) (fun _ _ => rfl) rfl
    (hg.frame _) hg.2.1 (ok_one (by kernel_rfl) rfl (okWide_bool_mk Try.underlying4 _))⟩

theorem over : Rows.aluSumsRow.holds Try.pinned (OpenSpec.ofChange Rows.aluSumsSpec) :=
  OpenClaim.holds_of_wide 7 Try.f7 rfl rfl rfl rfl rfl rfl rfl ⟨rfl, rfl, rfl, rfl, rfl⟩ rfl rfl rfl rfl rfl (by kernel_rfl) Try.func7 (by kernel_rfl)
    (of_decide_eq_true (by kernel_rfl)) (by unfold Func.isWrapper; first | (rw [if_pos (by decide +kernel)]; kernel_rfl) | (rw [if_neg (by decide +kernel)]; exact ⟨rfl, rfl⟩))
    (fun os started H enc _ => lifted os started H enc)

/-- The statement. -/
theorem proved : Rows.AluSumsSaid :=
  over
end Go.Proofs.Ytfeohadlblpmcaa.aluSums

namespace Go.Proofs.Ytfeohadlblpmcaa
/-- The statement, proved. -/
theorem aluSums_holds : Rows.AluSumsSaid := aluSums.proved
#print axioms aluSums_holds
end Go.Proofs.Ytfeohadlblpmcaa
