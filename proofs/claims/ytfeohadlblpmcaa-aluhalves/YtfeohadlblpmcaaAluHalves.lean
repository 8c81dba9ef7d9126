/-
  For every number op and all words a, b, up, over: the operator of 32 bits that op picks answers the same whatever the upper halves of a and b are, and its answer is filled by its sign: the law AluHalves returns true. No condition.
-/
import Derived.Test.YtfeohadlblpmcaaRows
import Derived.Test.YtfeohadlblpmcaaAluM
import Derived.Test.YtfeohadlblpmcaaAluT
import Derived.WalkKit
import Derived.ProofKit
import Derived.OpenShut
import Derived.ShutString
namespace Go.Proofs.Ytfeohadlblpmcaa.aluHalves
open Go.ChangeShapes Go.WideShapes Go.ChangeAt Go.RowKit
open Go.ChangeMaps (open_string shut_string)
set_option linter.unusedVariables false

theorem own : ownKnob Try.prog.godebug = none := by kernel_rfl

theorem tmod_neg14 (x : Int) (h : x ≤ 0) : x.tmod 14 = -((-x) % 14) := by
  have e := Int.neg_tmod (a := -x) (b := 14)
  rw [Int.neg_neg] at e
  rw [e, Int.tmod_eq_emod_of_nonneg (show 0 ≤ -x by omega)]
theorem narrow_bd (op a b : Int) (h : op ∈ narrowOps) : 0 ≤ doV op a b ∧ doV op a b < 18446744073709551616 := by
  simp only [narrowOps, npOps, nqOps, List.cons_append, List.nil_append, List.mem_cons, List.not_mem_nil, or_false] at h
  rcases h with rfl | rfl | rfl | rfl | rfl | rfl | rfl | rfl | rfl | rfl | rfl | rfl | rfl | rfl <;> exact sext32_bd _
theorem narrow_eq (op a b : Int) (h : op ∈ narrowOps) : doV op a b = narrowV op a b := by
  simp only [narrowOps, npOps, nqOps, List.cons_append, List.nil_append, List.mem_cons, List.not_mem_nil, or_false] at h
  rcases h with rfl | rfl | rfl | rfl | rfl | rfl | rfl | rfl | rfl | rfl | rfl | rfl | rfl | rfl <;> rfl
theorem half_any (op a b a' b' : Int) (h : op ∈ narrowOps) (ha : a' % 4294967296 = a % 4294967296) (hb : b' % 4294967296 = b % 4294967296) : doV op a' b' = doV op a b := by
  rw [narrow_eq op a b h, narrow_eq op a' b' h]; unfold narrowV; rw [ha, hb]
theorem half_sext (op a b : Int) (h : op ∈ narrowOps) : sextI (doV op a b) 32 = doV op a b := by
  rw [narrow_eq op a b h]; unfold narrowV
  split <;> exact sext_mod _ _ (sext32_mod _)
theorem u64_bd (x : Int) : 0 ≤ IntKind.u64.wrap x ∧ IntKind.u64.wrap x < 18446744073709551616 := by rw [IntKind.wrap_u64]; omega
theorem low_half (a u : Int) : IntKind.u64.wrap (a % 4294967296 + IntKind.u64.wrap (u * 4294967296)) % 4294967296 = a % 4294967296 := by
  simp only [IntKind.wrap_u64]; omega

/-! ### The walk: the Go text returns true -/
set_option maxHeartbeats 4000000 in
theorem walk (a0 : Int) (a1 : Int) (a2 : Int) (a3 : Int) (a4 : Int) (w0 : (Lit.int .i64 a0).wf = true) (w1 : (Lit.int .u64 a1).wf = true) (w2 : (Lit.int .u64 a2).wf = true) (w3 : (Lit.int .u64 a3).wf = true) (w4 : (Lit.int .u64 a4).wf = true) (w : World) :
    Calls Try.prog 5 #[.int .i64 a0, .int .u64 a1, .int .u64 a2, .int .u64 a3, .int .u64 a4] w fun e w' => e = .returned (.bool true) ∧ Grown w w' := by
  obtain ⟨h10, h11⟩ := bounds_u64 w1
  obtain ⟨h20, h21⟩ := bounds_u64 w2
  obtain ⟨h30, h31⟩ := bounds_u64 w3
  obtain ⟨h40, h41⟩ := bounds_u64 w4
  have h12 : a1 < 18446744073709551616 := by omega
  have h22 : a2 < 18446744073709551616 := by omega
  clear h11 h21 h31 h41
  have hbd := bounds_i64 w0
  by_cases hn : 0 ≤ a0
  · have hc : a0 % 14 = 0 ∨ a0 % 14 = 1 ∨ a0 % 14 = 2 ∨ a0 % 14 = 3 ∨ a0 % 14 = 4 ∨ a0 % 14 = 5 ∨ a0 % 14 = 6 ∨ a0 % 14 = 7 ∨ a0 % 14 = 8 ∨ a0 % 14 = 9 ∨ a0 % 14 = 10 ∨ a0 % 14 = 11 ∨ a0 % 14 = 12 ∨ a0 % 14 = 13 := by omega
    rcases hc with hm | hm | hm | hm | hm | hm | hm | hm | hm | hm | hm | hm | hm | hm
    all_goals
      go_enter Try.func5, Try.ntmps5
      go_wp2_with fail
      refine (do_yes _ _ _ _ (by decide) h10 h12 h20 h22).mono ?_
      rintro e w' ⟨rfl, rfl⟩
      go_wp2_with fail
      refine (do_yes _ _ _ _ (by decide) (u64_bd _).1 (u64_bd _).2 (u64_bd _).1 (u64_bd _).2).mono ?_
      rintro e w' ⟨rfl, rfl⟩
      rw [half_any _ a1 a2 _ _ (by decide) (low_half a1 a3) (low_half a2 a4)]
      go_wp2_with fail
      refine (answers2_any _).mono ?_
      rintro e w' ⟨rfl, rfl⟩
      go_wp2_with fail
      refine (refSext_any _ _ _ (narrow_bd _ a1 a2 (by decide)).1).mono ?_
      rintro e w' ⟨rfl, rfl⟩
      rw [half_sext _ a1 a2 (by decide)]
      go_wp2
      go_ret
      exact ⟨rfl, by repeat (first | exact Grown.refl _ | apply Grown.drew | apply Grown.alloc)⟩
  · have hneg : a0 < 0 := by omega
    clear hn
    have hc : (a0 + 1).tmod 14 = 0 ∨ (a0 + 1).tmod 14 = -1 ∨ (a0 + 1).tmod 14 = -2 ∨ (a0 + 1).tmod 14 = -3 ∨ (a0 + 1).tmod 14 = -4 ∨ (a0 + 1).tmod 14 = -5 ∨ (a0 + 1).tmod 14 = -6 ∨ (a0 + 1).tmod 14 = -7 ∨ (a0 + 1).tmod 14 = -8 ∨ (a0 + 1).tmod 14 = -9 ∨ (a0 + 1).tmod 14 = -10 ∨ (a0 + 1).tmod 14 = -11 ∨ (a0 + 1).tmod 14 = -12 ∨ (a0 + 1).tmod 14 = -13 := by
      have e := tmod_neg14 (a0 + 1) (by omega)
      omega
    rcases hc with hm | hm | hm | hm | hm | hm | hm | hm | hm | hm | hm | hm | hm | hm
    all_goals
      go_enter Try.func5, Try.ntmps5
      go_wp2_with fail
      refine (do_yes _ _ _ _ (by decide) h10 h12 h20 h22).mono ?_
      rintro e w' ⟨rfl, rfl⟩
      go_wp2_with fail
      refine (do_yes _ _ _ _ (by decide) (u64_bd _).1 (u64_bd _).2 (u64_bd _).1 (u64_bd _).2).mono ?_
      rintro e w' ⟨rfl, rfl⟩
      rw [half_any _ a1 a2 _ _ (by decide) (low_half a1 a3) (low_half a2 a4)]
      go_wp2_with fail
      refine (answers2_any _).mono ?_
      rintro e w' ⟨rfl, rfl⟩
      go_wp2_with fail
      refine (refSext_any _ _ _ (narrow_bd _ a1 a2 (by decide)).1).mono ?_
      rintro e w' ⟨rfl, rfl⟩
      rw [half_sext _ a1 a2 (by decide)]
      go_wp2
      go_ret
      exact ⟨rfl, by repeat (first | exact Grown.refl _ | apply Grown.drew | apply Grown.alloc)⟩

/-! ### The row's step -/
set_option maxRecDepth 100000 in
theorem lifted (os : Os) (started : os.Started) (H : Type) (enc : TypeId × Value → H) :
    ReturnsInHanded {} Try.checked os 5 .any (Rows.aluHalvesSpec.pre6 enc Try.prog Try.f5 Rows.aluHalvesRow.domain false) (Rows.aluHalvesSpec.post enc Try.prog Try.f5 false true false false) := by
  refine returnsInHanded_of_change (C := Try.checked) own started (by kernel_rfl) Try.func5
    (ChangeSpec.witness6 (enc := enc) (C := Try.checked) false ⟨#[], #[.int .i64 0, .int .u64 0, .int .u64 0, .int .u64 0, .int .u64 0], []⟩ 8 (by kernel_rfl) (by kernel_rfl) (by kernel_rfl) (by kernel_rfl)) ?_
  intro W base args ds gs before hval0 hW hcnd _
  have hval : ∀ (j : Nat) t v, Try.f5.params[j]? = some t → args[j]? = some v → Value.okWide Try.prog W .any base t v := hval0
  have hW' := hW
  obtain ⟨p, q, hA0, hV, rfl, hfz, hnd⟩ := hW
  have hA : DataW.TrodAll enc Try.prog W 0 (fun _ => true) true Try.f5.params.toList args.toList ds p := hA0
  rw [Try.params5] at hA hval
  obtain ⟨v0, vs0, d0, ds0, p0, q0, hargs, rfl, rfl, h0, r0⟩ := trodAll_cons hA
  obtain ⟨v1, vs1, d1, ds1, p1, q1, rfl, rfl, rfl, h1, r1⟩ := trodAll_cons r0
  obtain ⟨v2, vs2, d2, ds2, p2, q2, rfl, rfl, rfl, h2, r2⟩ := trodAll_cons r1
  obtain ⟨v3, vs3, d3, ds3, p3, q3, rfl, rfl, rfl, h3, r3⟩ := trodAll_cons r2
  obtain ⟨v4, vs4, d4, ds4, p4, q4, rfl, rfl, rfl, h4, r4⟩ := trodAll_cons r3
  obtain ⟨rfl, rfl, rfl⟩ := trodAll_nil r4
  obtain rfl : args = #[v0, v1, v2, v3, v4] := by cases args; simp_all
  obtain ⟨rfl, rfl⟩ := trodVars_none hV
  obtain ⟨a0, rfl, rfl, rfl, w0⟩ := open_int Try.underlying3 (hval 0 3 v0 rfl rfl) h0
  obtain ⟨a1, rfl, rfl, rfl, w1⟩ := open_int Try.underlying22 (hval 1 22 v1 rfl rfl) h1
  obtain ⟨a2, rfl, rfl, rfl, w2⟩ := open_int Try.underlying22 (hval 2 22 v2 rfl rfl) h2
  obtain ⟨a3, rfl, rfl, rfl, w3⟩ := open_int Try.underlying22 (hval 3 22 v3 rfl rfl) h3
  obtain ⟨a4, rfl, rfl, rfl, w4⟩ := open_int Try.underlying22 (hval 4 22 v4 rfl rfl) h4
  clear hA0 hval0
  simp only [List.append_nil] at hW'
  refine (walk a0 a1 a2 a3 a4 w0 w1 w2 w3 w4 W).mono fun e W' ⟨he, hg⟩ => ?_
  subst he
  exact ⟨_, rfl, post_of_same (pa := []) (pv := []) hW' (fun _ _ _ => (trodAll_cons_mk (shut_bool Try.underlying4 _) trodAll_mk0)) (fun sp _ => (trodAll_cons_mk (shut_int Try.underlying3 w0) (trodAll_cons_mk (shut_int Try.underlying22 w1) (trodAll_cons_mk (shut_int Try.underlying22 w2) (trodAll_cons_mk (shut_int Try.underlying22 w3) (trodAll_cons_mk (shut_int Try.underlying22 w4) trodAll_mk0)))))) (fun _ _ => rfl) rfl
    (hg.frame _) hg.2.1 (ok_one (by kernel_rfl) rfl (okWide_bool_mk Try.underlying4 _))⟩

theorem over : Rows.aluHalvesRow.holds Try.pinned (OpenSpec.ofChange Rows.aluHalvesSpec) :=
  OpenClaim.holds_of_wide 5 Try.f5 rfl rfl rfl rfl rfl rfl rfl ⟨rfl, rfl, rfl, rfl, rfl⟩ rfl rfl rfl rfl rfl (by kernel_rfl) Try.func5 (by kernel_rfl)
    (of_decide_eq_true (by kernel_rfl)) (by unfold Func.isWrapper; first | (rw [if_pos (by decide +kernel)]; kernel_rfl) | (rw [if_neg (by decide +kernel)]; exact ⟨rfl, rfl⟩))
    (fun os started H enc _ => lifted os started H enc)

/-- The statement. -/
theorem proved : Rows.AluHalvesSaid :=
  over
end Go.Proofs.Ytfeohadlblpmcaa.aluHalves

namespace Go.Proofs.Ytfeohadlblpmcaa
/-- The statement, proved. -/
theorem aluHalves_holds : Rows.AluHalvesSaid := aluHalves.proved
#print axioms aluHalves_holds
end Go.Proofs.Ytfeohadlblpmcaa
