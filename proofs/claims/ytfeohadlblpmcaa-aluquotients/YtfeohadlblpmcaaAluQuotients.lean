/-
  For all words a, b of 32 bits: quotient times divisor, and what is left, are a again, with a sign and without one, b = 0 and the least number by -1 among them: the law AluQuotients returns true. No condition.
-/
import Derived.Test.YtfeohadlblpmcaaRows
import Derived.Test.YtfeohadlblpmcaaAluM
import Derived.WalkKit
import Derived.ProofKit
import Derived.OpenShut
import Derived.ShutString
namespace Go.Proofs.Ytfeohadlblpmcaa.aluQuotients
open Go.ChangeShapes Go.WideShapes Go.ChangeAt Go.RowKit
open Go.ChangeMaps (open_string shut_string)
set_option linter.unusedVariables false

theorem own : ownKnob Try.prog.godebug = none := by kernel_rfl

theorem narrow_bd (op a b : Int) (h : op ∈ narrowOps) : 0 ≤ doV op a b ∧ doV op a b < 18446744073709551616 := by
  simp only [narrowOps, npOps, nqOps, List.cons_append, List.nil_append, List.mem_cons, List.not_mem_nil, or_false] at h
  rcases h with rfl | rfl | rfl | rfl | rfl | rfl | rfl | rfl | rfl | rfl | rfl | rfl | rfl | rfl <;> exact sext32_bd _
theorem back (q r a b : Int) (h : (q * b + r) % 4294967296 = a % 4294967296) :
    doV 45 (doV 58 (sextI (q % 4294967296) 32) b) (sextI (r % 4294967296) 32) = sextI a 32 := by
  show sextI ((sextI (sextI (q % 4294967296) 32 % 4294967296 * (b % 4294967296) % 4294967296) 32 % 4294967296 + sextI (r % 4294967296) 32 % 4294967296) % 4294967296) 32 = sextI a 32
  refine sext_mod _ _ ?_
  have e : sextI (q % 4294967296) 32 % 4294967296 * (b % 4294967296) % 4294967296 = q * b % 4294967296 := by
    rw [sext32_mod, Int.emod_emod_of_dvd _ (Int.dvd_refl _), ← Int.mul_emod]
  rw [e, sext32_mod, sext32_mod]
  generalize q * b = X at *
  omega
theorem quo_u (a b : Int) (ha0 : 0 ≤ a) (ha : a < 4294967296) (hb0 : 0 ≤ b) (hb : b < 4294967296) :
    doV 45 (doV 58 (doV 60 a b) b) (doV 62 a b) = sextI a 32 := by
  have eA : a % 4294967296 = a := by omega
  have eB : b % 4294967296 = b := by omega
  have e1 : doV 60 a b = sextI (divuI a b % 4294967296) 32 := by
    show sextI (divuI (a % 4294967296) (b % 4294967296) % 4294967296) 32 = _
    rw [eA, eB]
  have e2 : doV 62 a b = sextI (remuI a b % 4294967296) 32 := by
    show sextI (remuI (a % 4294967296) (b % 4294967296) % 4294967296) 32 = _
    rw [eA, eB]
  rw [e1, e2]
  refine back _ _ _ _ ?_
  unfold divuI remuI
  by_cases h : b = 0
  · subst h; simp
  · rw [if_neg h, if_neg h]
    have e := Int.emod_add_mul_ediv a b
    rw [Int.mul_comm] at e
    rw [Int.add_comm, e]
theorem sx_w (a : Int) (ha0 : 0 ≤ a) (ha : a < 4294967296) : wrap64 (sextI a 32) = wrap32 a := by rw [sext32_eq]; unfold wrap64 wrap32; omega
theorem quo_s (a b : Int) (ha0 : 0 ≤ a) (ha : a < 4294967296) (hb0 : 0 ≤ b) (hb : b < 4294967296) :
    doV 45 (doV 58 (doV 59 a b) b) (doV 61 a b) = sextI a 32 := by
  have eA : a % 4294967296 = a := by omega
  have eB : b % 4294967296 = b := by omega
  have e1 : doV 59 a b = sextI (divI (sextI a 32) (sextI b 32) % 4294967296) 32 := by
    show sextI (divI (sextI (a % 4294967296) 32) (sextI (b % 4294967296) 32) % 4294967296) 32 = _
    rw [eA, eB]
  have e2 : doV 61 a b = sextI (remI (sextI a 32) (sextI b 32) % 4294967296) 32 := by
    show sextI (remI (sextI (a % 4294967296) 32) (sextI (b % 4294967296) 32) % 4294967296) 32 = _
    rw [eA, eB]
  rw [e1, e2]
  refine back _ _ _ _ ?_
  have hz : sextI b 32 = 0 ↔ b = 0 := by rw [sext32_eq]; omega
  unfold divI remI
  by_cases h : b = 0
  · rw [if_pos (hz.2 h), if_pos (hz.2 h)]
    subst h
    rw [Int.mul_zero, Int.zero_add]; exact sext32_mod a
  · rw [if_neg (fun k => h (hz.1 k)), if_neg (fun k => h (hz.1 k)), sx_w a ha0 ha, sx_w b hb0 hb]
    have e := Int.tmod_add_mul_tdiv (wrap32 a) (wrap32 b)
    have m1 := Int.mul_emod (IntKind.u64.wrap (wrap64 (Int.tdiv (wrap32 a) (wrap32 b)))) b 4294967296
    have m2 := Int.mul_emod (Int.tdiv (wrap32 a) (wrap32 b)) (wrap32 b) 4294967296
    have m3 : IntKind.u64.wrap (wrap64 (Int.tdiv (wrap32 a) (wrap32 b))) % 4294967296 = Int.tdiv (wrap32 a) (wrap32 b) % 4294967296 := by
      generalize Int.tdiv (wrap32 a) (wrap32 b) = q; rw [IntKind.wrap_u64]; unfold wrap64; omega
    have m4 : b % 4294967296 = wrap32 b % 4294967296 := by unfold wrap32; omega
    have m5 : a % 4294967296 = wrap32 a % 4294967296 := by unfold wrap32; omega
    have m6 : IntKind.u64.wrap ((wrap32 a).tmod (wrap32 b)) % 4294967296 = (wrap32 a).tmod (wrap32 b) % 4294967296 := by
      generalize (wrap32 a).tmod (wrap32 b) = q; rw [IntKind.wrap_u64]; omega
    rw [m3, m4, ← m2] at m1
    rw [m5, Int.add_emod, m1, m6, ← Int.add_emod, Int.add_comm, Int.mul_comm, e]

/-! ### The walk: the Go text returns true -/
set_option maxHeartbeats 1000000 in
theorem walk (a0 : Int) (a1 : Int) (w0 : (Lit.int .u32 a0).wf = true) (w1 : (Lit.int .u32 a1).wf = true) (w : World) :
    Calls Try.prog 9 #[.int .u32 a0, .int .u32 a1] w fun e w' => e = .returned (.bool true) ∧ Grown w w' := by
  have ha := bounds_u32 w0
  have hb := bounds_u32 w1
  have ha0 : 0 ≤ a0 := by omega
  have ha1 : a0 < 18446744073709551616 := by omega
  have hb0 : 0 ≤ a1 := by omega
  have hb1 : a1 < 18446744073709551616 := by omega
  have t1 := Lib.hid (quo_s a0 a1 ha0 (by omega) hb0 (by omega))
  have t2 := Lib.hid (quo_u a0 a1 ha0 (by omega) hb0 (by omega))
  have n1 := narrow_bd 59 a0 a1 (by decide)
  have n2 := narrow_bd 61 a0 a1 (by decide)
  have n3 := narrow_bd 58 (doV 59 a0 a1) a1 (by decide)
  have n4 := narrow_bd 60 a0 a1 (by decide)
  have n5 := narrow_bd 62 a0 a1 (by decide)
  have n6 := narrow_bd 58 (doV 60 a0 a1) a1 (by decide)
  go_enter Try.func9, Try.ntmps9
  go_wp2_with fail
  refine (do_yes 59 a0 a1 _ (by decide) ha0 ha1 hb0 hb1).mono ?_
  rintro e w' ⟨rfl, rfl⟩
  go_wp2_with fail
  refine (do_yes 61 a0 a1 _ (by decide) ha0 ha1 hb0 hb1).mono ?_
  rintro e w' ⟨rfl, rfl⟩
  go_wp2_with fail
  refine (do_yes 58 _ a1 _ (by decide) n1.1 n1.2 hb0 hb1).mono ?_
  rintro e w' ⟨rfl, rfl⟩
  go_wp2_with fail
  refine (do_yes 45 _ _ _ (by decide) n3.1 n3.2 n2.1 n2.2).mono ?_
  rintro e w' ⟨rfl, rfl⟩
  rw [t1.out]
  go_wp2_with fail
  refine (do_yes 60 a0 a1 _ (by decide) ha0 ha1 hb0 hb1).mono ?_
  rintro e w' ⟨rfl, rfl⟩
  go_wp2_with fail
  refine (do_yes 62 a0 a1 _ (by decide) ha0 ha1 hb0 hb1).mono ?_
  rintro e w' ⟨rfl, rfl⟩
  go_wp2_with fail
  refine (do_yes 58 _ a1 _ (by decide) n4.1 n4.2 hb0 hb1).mono ?_
  rintro e w' ⟨rfl, rfl⟩
  go_wp2_with fail
  refine (do_yes 45 _ _ _ (by decide) n6.1 n6.2 n5.1 n5.2).mono ?_
  rintro e w' ⟨rfl, rfl⟩
  rw [t2.out]
  go_wp2_with fail
  refine (answers2_any _).mono ?_
  rintro e w' ⟨rfl, rfl⟩
  go_wp2_with fail
  refine (refSext_any _ _ _ ha0).mono ?_
  rintro e w' ⟨rfl, rfl⟩
  go_wp2
  go_ret
  exact ⟨rfl, Grown.refl _⟩

/-! ### The row's step -/
set_option maxRecDepth 100000 in
theorem lifted (os : Os) (started : os.Started) (H : Type) (enc : TypeId × Value → H) :
    ReturnsInHanded {} Try.checked os 9 .any (Rows.aluQuotientsSpec.pre6 enc Try.prog Try.f9 Rows.aluQuotientsRow.domain false) (Rows.aluQuotientsSpec.post enc Try.prog Try.f9 false true false false) := by
  refine returnsInHanded_of_change (C := Try.checked) own started (by kernel_rfl) Try.func9
    (ChangeSpec.witness6 (enc := enc) (C := Try.checked) false ⟨#[], #[.int .u32 0, .int .u32 0], []⟩ 8 (by kernel_rfl) (by kernel_rfl) (by kernel_rfl) (by kernel_rfl)) ?_
  intro W base args ds gs before hval0 hW hcnd _
  have hval : ∀ (j : Nat) t v, Try.f9.params[j]? = some t → args[j]? = some v → Value.okWide Try.prog W .any base t v := hval0
  have hW' := hW
  obtain ⟨p, q, hA0, hV, rfl, hfz, hnd⟩ := hW
  have hA : DataW.TrodAll enc Try.prog W 0 (fun _ => true) true Try.f9.params.toList args.toList ds p := hA0
  rw [Try.params9] at hA hval
  obtain ⟨v0, vs0, d0, ds0, p0, q0, hargs, rfl, rfl, h0, r0⟩ := trodAll_cons hA
  obtain ⟨v1, vs1, d1, ds1, p1, q1, rfl, rfl, rfl, h1, r1⟩ := trodAll_cons r0
  obtain ⟨rfl, rfl, rfl⟩ := trodAll_nil r1
  obtain rfl : args = #[v0, v1] := by cases args; simp_all
  obtain ⟨rfl, rfl⟩ := trodVars_none hV
  obtain ⟨a0, rfl, rfl, rfl, w0⟩ := open_int Try.underlying35 (hval 0 35 v0 rfl rfl) h0
  obtain ⟨a1, rfl, rfl, rfl, w1⟩ := open_int Try.underlying35 (hval 1 35 v1 rfl rfl) h1
  clear hA0 hval0
  simp only [List.append_nil] at hW'
  refine (walk a0 a1 w0 w1 W).mono fun e W' ⟨he, hg⟩ => ?_
  subst he
  exact ⟨_, rfl, post_of_same (pa := []) (pv := []) hW' (fun _ _ _ => (trodAll_cons_mk (shut_bool Try.underlying4 _) trodAll_mk0)) (fun sp _ => (trodAll_cons_mk (shut_int Try.underlying35 w0) (trodAll_cons_mk (shut_int Try.underlying35 w1) trodAll_mk0))) (fun _ _ => rfl) rfl
    (hg.frame _) hg.2.1 (ok_one (by kernel_rfl) rfl (okWide_bool_mk Try.underlying4 _))⟩

theorem over : Rows.aluQuotientsRow.holds Try.pinned (OpenSpec.ofChange Rows.aluQuotientsSpec) :=
  OpenClaim.holds_of_wide 9 Try.f9 rfl rfl rfl rfl rfl rfl rfl ⟨rfl, rfl, rfl, rfl, rfl⟩ rfl rfl rfl rfl rfl (by kernel_rfl) Try.func9 (by kernel_rfl)
    (of_decide_eq_true (by kernel_rfl)) (by unfold Func.isWrapper; first | (rw [if_pos (by decide +kernel)]; kernel_rfl) | (rw [if_neg (by decide +kernel)]; exact ⟨rfl, rfl⟩))
    (fun os started H enc _ => lifted os started H enc)

/-- The statement. -/
theorem proved : Rows.AluQuotientsSaid :=
  over
end Go.Proofs.Ytfeohadlblpmcaa.aluQuotients

namespace Go.Proofs.Ytfeohadlblpmcaa
/-- The statement, proved. -/
theorem aluQuotients_holds : Rows.AluQuotientsSaid := aluQuotients.proved
#print axioms aluQuotients_holds
end Go.Proofs.Ytfeohadlblpmcaa
