/-
  For all words a, n: a shifted to the left by n's lowest six bits and back and again is as it was after the first, to the right it is the quotient by that power of two, and what is back has lost just its upper bits: the law AluShifts returns true. No condition.
-/
import Derived.Test.YtfeohadlblpmcaaRows
import Derived.Test.YtfeohadlblpmcaaAluM
import Derived.WalkKit
import Derived.ProofKit
import Derived.OpenShut
import Derived.ShutString
namespace Go.Proofs.Ytfeohadlblpmcaa.aluShifts
open Go.ChangeShapes Go.WideShapes Go.ChangeAt Go.RowKit
open Go.ChangeMaps (open_string shut_string)
set_option linter.unusedVariables false

theorem own : ownKnob Try.prog.godebug = none := by kernel_rfl

theorem pow_lt64 (k : Nat) (h : k < 64) : (2 : Int) ^ k < 18446744073709551616 := by
  have := (low_mono (k + 1) 64 (by omega) (by omega)).1
  simp at this; omega
theorem up_again (a : Int) (k : Nat) (hk : k < 64) : IntKind.u64.wrap (IntKind.u64.wrap (a * 2 ^ k) / 2 ^ k * 2 ^ k) = IntKind.u64.wrap (a * 2 ^ k) := by
  have h64 := pow64 k (by omega)
  simp only [IntKind.wrap_u64]
  have e : a * 2 ^ k % 18446744073709551616 = a % 2 ^ (64 - k) * 2 ^ k := by rw [← h64, Int.mul_comm (2 ^ (64 - k)), Int.mul_comm a, Int.mul_emod_mul_of_pos _ _ (pow_pos' k), Int.mul_comm]
  rw [e, Int.mul_ediv_cancel _ (Int.ne_of_gt (pow_pos' k)), ← e, Int.emod_emod_of_dvd _ (Int.dvd_refl _)]

/-! ### The walk: the Go text returns true -/
set_option maxHeartbeats 1000000 in
theorem walk (a0 : Int) (a1 : Int) (w0 : (Lit.int .u64 a0).wf = true) (w1 : (Lit.int .u64 a1).wf = true) (w : World) :
    Calls Try.prog 6 #[.int .u64 a0, .int .u64 a1] w fun e w' => e = .returned (.bool true) ∧ Grown w w' := by
  obtain ⟨ha0, ha1⟩ := bounds_u64 w0
  obtain ⟨hb0, hb1⟩ := bounds_u64 w1
  have ha : a0 < 18446744073709551616 := by omega
  have hb : a1 < 18446744073709551616 := by omega
  clear ha1 hb1
  obtain ⟨k, kk⟩ := Int.eq_ofNat_of_zero_le (show 0 ≤ a1 % 64 by omega)
  have hk : k < 64 := by omega
  have KE := Lib.hid (show (a1 % 64).toNat = k by omega)
  have hp := pow_pos' k
  have hlt : (2 : Int) ^ k < 18446744073709551616 := pow_lt64 k hk
  have hup : 0 ≤ IntKind.u64.wrap (a0 * 2 ^ k) ∧ IntKind.u64.wrap (a0 * 2 ^ k) < 18446744073709551616 := by rw [IntKind.wrap_u64]; omega
  have hdn := quo_le (IntKind.u64.wrap (a0 * 2 ^ k)) (2 ^ k) hup.1 hp
  have hdn2 : IntKind.u64.wrap (a0 * 2 ^ k) / 2 ^ k < 18446744073709551616 := by omega
  have t1 : (IntKind.u64.wrap (IntKind.u64.wrap (a0 * 2 ^ k) / 2 ^ k * 2 ^ k) == IntKind.u64.wrap (a0 * 2 ^ k)) = true := by rw [beq_iff_eq]; exact up_again a0 k hk
  have t2 : IntKind.u64.wrap (a0 * 2 ^ k) / 2 ^ k ≤ 18446744073709551615 / 2 ^ k := Int.ediv_le_ediv hp (by omega)
  have hq := quo_le a0 (2 ^ k) ha0 hp
  generalize hU : IntKind.u64.wrap (a0 * 2 ^ k) = up at *
  have UU := Lib.hid hU; clear hU
  generalize hD : up / 2 ^ k = dn at *
  have DD := Lib.hid hD; clear hD
  generalize hR : IntKind.u64.wrap (dn * 2 ^ k) = ag at *
  have RR := Lib.hid hR; clear hR
  generalize hH : a0 / 2 ^ k = hf at *
  have HH := Lib.hid hH; clear hH
  generalize hP : (2 : Int) ^ k = P at *
  have PP := Lib.hid hP; clear hP
  go_enter Try.func6, Try.ntmps6
  go_wp2_with fail
  refine (do_yes 33 a0 a1 _ (by decide) ha0 ha hb0 hb).mono ?_
  rintro e w' ⟨rfl, rfl⟩
  rw [show doV 33 a0 a1 = IntKind.u64.wrap (a0 * 2 ^ (a1 % 64).toNat) from rfl, KE.out, PP.out, UU.out]
  go_wp2_with fail
  refine (do_yes 37 up a1 _ (by decide) hup.1 hup.2 hb0 hb).mono ?_
  rintro e w' ⟨rfl, rfl⟩
  rw [show doV 37 up a1 = up / 2 ^ (a1 % 64).toNat from rfl, KE.out, PP.out, DD.out]
  go_wp2_with fail
  refine (do_yes 33 dn a1 _ (by decide) hdn.1 hdn2 hb0 hb).mono ?_
  rintro e w' ⟨rfl, rfl⟩
  rw [show doV 33 dn a1 = IntKind.u64.wrap (dn * 2 ^ (a1 % 64).toNat) from rfl, KE.out, PP.out, RR.out]
  go_wp2_with fail
  refine (do_yes 37 a0 a1 _ (by decide) ha0 ha hb0 hb).mono ?_
  rintro e w' ⟨rfl, rfl⟩
  rw [show doV 37 a0 a1 = a0 / 2 ^ (a1 % 64).toNat from rfl, KE.out, PP.out, HH.out]
  go_wp2_with fail
  refine (do_yes 55 a0 (IntKind.u64.wrap (2 ^ k)) _ (by decide) ha0 ha (by rw [PP.out, IntKind.wrap_u64]; omega) (by rw [PP.out, IntKind.wrap_u64]; omega)).mono ?_
  rintro e w' ⟨rfl, rfl⟩
  have q1 : doV 55 a0 (IntKind.u64.wrap (2 ^ k)) = hf := by
    show divuI a0 (IntKind.u64.wrap (2 ^ k)) = hf
    unfold divuI
    rw [PP.out, IntKind.wrap_u64, Int.emod_eq_of_lt (by omega) hlt, if_neg (by omega)]
    exact HH.out
  rw [q1]
  clear q1
  go_wp2_with fail
  refine (answers2_any _).mono ?_
  rintro e w' ⟨rfl, rfl⟩
  rw [← PP.out] at t2
  clear hp hlt
  go_wp2
  go_ret
  exact ⟨rfl, Grown.refl _⟩

/-! ### The row's step -/
set_option maxRecDepth 100000 in
theorem lifted (os : Os) (started : os.Started) (H : Type) (enc : TypeId × Value → H) :
    ReturnsInHanded {} Try.checked os 6 .any (Rows.aluShiftsSpec.pre6 enc Try.prog Try.f6 Rows.aluShiftsRow.domain false) (Rows.aluShiftsSpec.post enc Try.prog Try.f6 false true false false) := by
  refine returnsInHanded_of_change (C := Try.checked) own started (by kernel_rfl) Try.func6
    (ChangeSpec.witness6 (enc := enc) (C := Try.checked) false ⟨#[], #[.int .u64 0, .int .u64 0], []⟩ 8 (by kernel_rfl) (by kernel_rfl) (by kernel_rfl) (by kernel_rfl)) ?_
  intro W base args ds gs before hval0 hW hcnd _
  have hval : ∀ (j : Nat) t v, Try.f6.params[j]? = some t → args[j]? = some v → Value.okWide Try.prog W .any base t v := hval0
  have hW' := hW
  obtain ⟨p, q, hA0, hV, rfl, hfz, hnd⟩ := hW
  have hA : DataW.TrodAll enc Try.prog W 0 (fun _ => true) true Try.f6.params.toList args.toList ds p := hA0
  rw [Try.params6] at hA hval
  obtain ⟨v0, vs0, d0, ds0, p0, q0, hargs, rfl, rfl, h0, r0⟩ := trodAll_cons hA
  obtain ⟨v1, vs1, d1, ds1, p1, q1, rfl, rfl, rfl, h1, r1⟩ := trodAll_cons r0
  obtain ⟨rfl, rfl, rfl⟩ := trodAll_nil r1
  obtain rfl : args = #[v0, v1] := by cases args; simp_all
  obtain ⟨rfl, rfl⟩ := trodVars_none hV
  obtain ⟨a0, rfl, rfl, rfl, w0⟩ := open_int Try.underlying22 (hval 0 22 v0 rfl rfl) h0
  obtain ⟨a1, rfl, rfl, rfl, w1⟩ := open_int Try.underlying22 (hval 1 22 v1 rfl rfl) h1
  clear hA0 hval0
  simp only [List.append_nil] at hW'
  refine (walk a0 a1 w0 w1 W).mono fun e W' ⟨he, hg⟩ => ?_
  subst he
  exact ⟨_, rfl, post_of_same (pa := []) (pv := []) hW' (fun _ _ _ => (trodAll_cons_mk (shut_bool Try.underlying4 _) trodAll_mk0)) (fun sp _ => (trodAll_cons_mk (shut_int Try.underlying22 w0) (trodAll_cons_mk (shut_int Try.underlying22 w1) trodAll_mk0))) (fun _ _ => rfl) rfl
    (hg.frame _) hg.2.1 (ok_one (by kernel_rfl) rfl (okWide_bool_mk Try.underlying4 _))⟩

theorem over : Rows.aluShiftsRow.holds Try.pinned (OpenSpec.ofChange Rows.aluShiftsSpec) :=
  OpenClaim.holds_of_wide 6 Try.f6 rfl rfl rfl rfl rfl rfl rfl ⟨rfl, rfl, rfl, rfl, rfl⟩ rfl rfl rfl rfl rfl (by kernel_rfl) Try.func6 (by kernel_rfl)
    (of_decide_eq_true (by kernel_rfl)) (by unfold Func.isWrapper; first | (rw [if_pos (by decide +kernel)]; kernel_rfl) | (rw [if_neg (by decide +kernel)]; exact ⟨rfl, rfl⟩))
    (fun os started H enc _ => lifted os started H enc)

/-- The statement. -/
theorem proved : Rows.AluShiftsSaid :=
  over
end Go.Proofs.Ytfeohadlblpmcaa.aluShifts

namespace Go.Proofs.Ytfeohadlblpmcaa
/-- The statement, proved. -/
theorem aluShifts_holds : Rows.AluShiftsSaid := aluShifts.proved
#print axioms aluShifts_holds
end Go.Proofs.Ytfeohadlblpmcaa
