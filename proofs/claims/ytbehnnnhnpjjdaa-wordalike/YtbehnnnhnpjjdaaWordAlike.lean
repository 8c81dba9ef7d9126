/-
  For all words a, b and all numbers x, y of 32 bits with a sign: products' upper halves go either way round, and of x and y the upper half is the product's sign: the law WordAlike returns true. No condition.
-/
import Derived.Test.YtbehnnnhnpjjdaaRows
import Derived.Test.YtbehnnnhnpjjdaaWalksC
import Derived.WalkKit
import Derived.ProofKit
import Derived.OpenShut
import Derived.ShutString
namespace Go.Proofs.Ytbehnnnhnpjjdaa.wordAlike
open Go.ChangeShapes Go.WideShapes Go.ChangeAt Go.RowKit
open Go.ChangeMaps (open_string shut_string)
set_option linter.unusedVariables false

theorem own : ownKnob Try.prog.godebug = none := by kernel_rfl

theorem i32_bd {n : Int} (h : (Lit.int .i32 n).wf = true) : -2147483648 ≤ n ∧ n ≤ 2147483647 := bounds_i32 h
theorem u64_bd (x : Int) : 0 ≤ IntKind.u64.wrap x ∧ IntKind.u64.wrap x < 18446744073709551616 := by rw [IntKind.wrap_u64]; omega
theorem mulh_comm (a b : Int) : mulhI a b = mulhI b a := by unfold mulhI; rw [Int.mul_comm]
theorem mul_i32 (x y : Int) (hx : -2147483648 ≤ x ∧ x ≤ 2147483647) (hy : -2147483648 ≤ y ∧ y ≤ 2147483647) : -4611686018427387904 ≤ x * y ∧ x * y ≤ 4611686018427387904 := by
  have h1 := Int.mul_nonneg (show 0 ≤ 2147483648 + x by omega) (show 0 ≤ 2147483648 + y by omega)
  have h2 := Int.mul_nonneg (show 0 ≤ 2147483648 - x by omega) (show 0 ≤ 2147483648 - y by omega)
  have h3 := Int.mul_nonneg (show 0 ≤ 2147483648 + x by omega) (show 0 ≤ 2147483648 - y by omega)
  have h4 := Int.mul_nonneg (show 0 ≤ 2147483648 - x by omega) (show 0 ≤ 2147483648 + y by omega)
  simp only [Int.add_mul, Int.mul_add, Int.sub_mul, Int.mul_sub] at h1 h2 h3 h4
  omega
theorem alike (x y : Int) (hx : -2147483648 ≤ x ∧ x ≤ 2147483647) (hy : -2147483648 ≤ y ∧ y ≤ 2147483647) :
    mulhI (IntKind.u64.wrap x) (IntKind.u64.wrap y) = IntKind.u64.wrap (wrap64 (IntKind.u64.wrap (IntKind.u64.wrap x * IntKind.u64.wrap y)) / 9223372036854775808) := by
  have hm := mul_i32 x y hx hy
  unfold mulhI
  simp only [IntKind.wrap_u64]
  have e1 : wrap64 (x % 18446744073709551616) = x := by unfold wrap64; omega
  have e2 : wrap64 (y % 18446744073709551616) = y := by unfold wrap64; omega
  rw [e1, e2, ← Int.mul_emod]
  generalize x * y = X at *
  unfold wrap64
  omega

/-! ### The walk: the Go text returns true -/
theorem walk (a0 : Int) (a1 : Int) (a2 : Int) (a3 : Int) (w0 : (Lit.int .u64 a0).wf = true) (w1 : (Lit.int .u64 a1).wf = true) (w2 : (Lit.int .i32 a2).wf = true) (w3 : (Lit.int .i32 a3).wf = true) (w : World) :
    Calls Try.prog 5 #[.int .u64 a0, .int .u64 a1, .int .i32 a2, .int .i32 a3] w fun e w' => e = .returned (.bool true) ∧ Grown w w' := by
  obtain ⟨ha0, ha1⟩ := bounds_u64 w0
  obtain ⟨hb0, hb1⟩ := bounds_u64 w1
  have ha : a0 < 18446744073709551616 := by omega
  have hb : a1 < 18446744073709551616 := by omega
  clear ha1 hb1
  have hx := i32_bd w2
  have hy := i32_bd w3
  have hp := u64_bd a2
  have hq := u64_bd a3
  have t1 := Lib.hid (Int.mul_comm a1 a0)
  have t2 := Lib.hid (mulh_comm a1 a0)
  have t3 := alike a2 a3 hx hy
  have t4 : (mulhI (IntKind.u64.wrap a2) (IntKind.u64.wrap a3) == IntKind.u64.wrap (wrap64 (IntKind.u64.wrap (IntKind.u64.wrap a2 * IntKind.u64.wrap a3)) / 9223372036854775808)) = true := by rw [t3]; exact beq_self_eq_true _
  clear t3
  go_enter Try.func5, Try.ntmps5
  go_wp2_with fail
  refine (answers_any _).mono ?_
  rintro e w' ⟨rfl, rfl⟩
  go_wp2_with fail
  refine (mulhu_any _ _ _ ha0 ha hb0 hb).mono ?_
  rintro e w' ⟨rfl, rfl⟩
  go_wp2_with fail
  refine (mulhu_any _ _ _ hb0 hb ha0 ha).mono ?_
  rintro e w' ⟨rfl, rfl⟩
  rw [t1.out]
  generalize a0 * a1 / 18446744073709551616 = h1 at *
  go_wp2_with fail
  refine (mulh_any _ _ _ ha0 ha hb0 hb).mono ?_
  rintro e w' ⟨rfl, rfl⟩
  go_wp2_with fail
  refine (mulh_any _ _ _ hb0 hb ha0 ha).mono ?_
  rintro e w' ⟨rfl, rfl⟩
  rw [t2.out]
  go_wp2_with fail
  refine (mulh_any _ _ _ hp.1 hp.2 hq.1 hq.2).mono ?_
  rintro e w' ⟨rfl, rfl⟩
  go_wp2
  go_ret
  exact ⟨rfl, Grown.refl _⟩

/-! ### The row's step -/
set_option maxRecDepth 100000 in
theorem lifted (os : Os) (started : os.Started) (H : Type) (enc : TypeId × Value → H) :
    ReturnsInHanded {} Try.checked os 5 .any (Rows.wordAlikeSpec.pre6 enc Try.prog Try.f5 Rows.wordAlikeRow.domain false) (Rows.wordAlikeSpec.post enc Try.prog Try.f5 false true false false) := by
  refine returnsInHanded_of_change (C := Try.checked) own started (by kernel_rfl) Try.func5
    (ChangeSpec.witness6 (enc := enc) (C := Try.checked) false ⟨#[], #[.int .u64 0, .int .u64 0, .int .i32 0, .int .i32 0], []⟩ 8 (by kernel_rfl) (by kernel_rfl) (by kernel_rfl) (by kernel_rfl)) ?_
  intro W base args ds gs before hval0 hW hcnd _
  have hval : ∀ (j : Nat) t v, Try.f5.params[j]? = some t → args[j]? = some v → Value.okWide Try.prog W .any base t v := hval0
  have hW' := hW
  obtain ⟨p, q, hA0, hV, rfl, hfz, hnd⟩ := hW
  have hA : DataW.TrodAll enc Try.prog W 0 (fun _ => true) true Try.f5.params.toList args.toList ds p := hA0
  rw [Try.params5] at hA hval
  obtain ⟨v0, vs0, d0, ds0, p0, q0, hargs, rfl, rfl, h0, r0⟩ := trodAll_cons hA
  obtain ⟨v1, vs1, d1, ds1, p1, q1, rfl, rfl, rfl, h1, r1⟩ := trodAll_cons r0
  obtain ⟨v2, vs2, d2, ds2, p2, q2, rfl, rfl, rfl, h2, r2⟩ := trodAll_cons r1
  obtain ⟨v3, vs3, d3, ds3, p3, q3, rfl, rfl, rfl, h3, r3⟩ := trodAll_cons r2
  obtain ⟨rfl, rfl, rfl⟩ := trodAll_nil r3
  obtain rfl : args = #[v0, v1, v2, v3] := by cases args; simp_all
  obtain ⟨rfl, rfl⟩ := trodVars_none hV
  obtain ⟨a0, rfl, rfl, rfl, w0⟩ := open_int Try.underlying22 (hval 0 22 v0 rfl rfl) h0
  obtain ⟨a1, rfl, rfl, rfl, w1⟩ := open_int Try.underlying22 (hval 1 22 v1 rfl rfl) h1
  obtain ⟨a2, rfl, rfl, rfl, w2⟩ := open_int Try.underlying21 (hval 2 21 v2 rfl rfl) h2
  obtain ⟨a3, rfl, rfl, rfl, w3⟩ := open_int Try.underlying21 (hval 3 21 v3 rfl rfl) h3
  clear hA0 hval0
  simp only [List.append_nil] at hW'
  refine (walk a0 a1 a2 a3 w0 w1 w2 w3 W).mono fun e W' ⟨he, hg⟩ => ?_
  subst he
  exact ⟨_, rfl, post_of_same (pa := []) (pv := []) hW' (fun _ _ _ => (trodAll_cons_mk (shut_bool Try.underlying4 _) trodAll_mk0)) (fun sp _ => (trodAll_cons_mk (shut_int Try.underlying22 w0) (trodAll_cons_mk (shut_int Try.underlying22 w1) (trodAll_cons_mk (shut_int Try.underlying21 w2) (trodAll_cons_mk (shut_int Try.underlying21 w3) trodAll_mk0))))) (fun _ _ => rfl) rfl
    (hg.frame _) hg.2.1 (ok_one (by kernel_rfl) rfl (okWide_bool_mk Try.underlying4 _))⟩

theorem over : Rows.wordAlikeRow.holds Try.pinned (OpenSpec.ofChange Rows.wordAlikeSpec) :=
  OpenClaim.holds_of_wide 5 Try.f5 rfl rfl rfl rfl rfl rfl rfl ⟨rfl, rfl, rfl, rfl, rfl⟩ rfl rfl rfl rfl rfl (by kernel_rfl) Try.func5 (by kernel_rfl)
    (of_decide_eq_true (by kernel_rfl)) (by unfold Func.isWrapper; first | (rw [if_pos (by decide +kernel)]; kernel_rfl) | (rw [if_neg (by decide +kernel)]; exact ⟨rfl, rfl⟩))
    (fun os started H enc _ => lifted os started H enc)

/-- The statement. -/
theorem proved : Rows.WordAlikeSaid :=
  over
end Go.Proofs.Ytbehnnnhnpjjdaa.wordAlike

namespace Go.Proofs.Ytbehnnnhnpjjdaa
/-- The statement, proved. -/
theorem wordAlike_holds : Rows.WordAlikeSaid := wordAlike.proved
#print axioms wordAlike_holds
end Go.Proofs.Ytbehnnnhnpjjdaa
