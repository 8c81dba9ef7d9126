/-
  For all words a, b: or less and is exclusive or, and and or together are the sum, and all bits turned, and one more, are the negative: the law AluLogic returns true. No condition.
-/
import Derived.Test.YtfeohadlblpmcaaRows
import Derived.Test.YtfeohadlblpmcaaAluM
import Derived.WalkKit
import Derived.ProofKit
import Derived.OpenShut
import Derived.ShutString
namespace Go.Proofs.Ytfeohadlblpmcaa.aluLogic
open Go.ChangeShapes Go.WideShapes Go.ChangeAt Go.RowKit
open Go.ChangeMaps (open_string shut_string)
set_option linter.unusedVariables false

theorem own : ownKnob Try.prog.godebug = none := by kernel_rfl

theorem nat_logic : ∀ (n A B : Nat), A < 2 ^ n → B < 2 ^ n → (A &&& B) + (A ||| B) = A + B ∧ (A ||| B) = (A &&& B) + (A ^^^ B)
  | 0, A, B, ha, hb => by
    obtain rfl : A = 0 := by simpa using ha
    obtain rfl : B = 0 := by simpa using hb
    exact ⟨rfl, rfl⟩
  | n + 1, A, B, ha, hb => by
    have h2 : 2 ^ (n + 1) = 2 ^ n * 2 := Nat.pow_succ 2 n
    have ih := nat_logic n (A / 2) (B / 2) (by omega) (by omega)
    have d1 : (A &&& B) / 2 = A / 2 &&& B / 2 := Nat.and_div_two
    have d2 : (A ||| B) / 2 = A / 2 ||| B / 2 := Nat.or_div_two
    have d3 : (A ^^^ B) / 2 = A / 2 ^^^ B / 2 := Nat.xor_div_two
    have m1 : (A &&& B) % 2 = (A % 2) &&& (B % 2) := Nat.and_mod_two_pow (n := 1)
    have m2 : (A ||| B) % 2 = (A % 2) ||| (B % 2) := Nat.or_mod_two_pow (n := 1)
    have m3 : (A ^^^ B) % 2 = (A % 2) ^^^ (B % 2) := Nat.xor_mod_two_pow (n := 1)
    rw [← d1, ← d2, ← d3] at ih
    have ca : A % 2 = 0 ∨ A % 2 = 1 := by omega
    have cb : B % 2 = 0 ∨ B % 2 = 1 := by omega
    have k1 : (A &&& B) % 2 = min (A % 2) (B % 2) := by rcases ca with ca | ca <;> rcases cb with cb | cb <;> rw [m1, ca, cb] <;> decide
    have k2 : (A ||| B) % 2 = max (A % 2) (B % 2) := by rcases ca with ca | ca <;> rcases cb with cb | cb <;> rw [m2, ca, cb] <;> decide
    have k3 : (A ^^^ B) % 2 = (A % 2 + B % 2) % 2 := by rcases ca with ca | ca <;> rcases cb with cb | cb <;> rw [m3, ca, cb] <;> decide
    clear m1 m2 m3 d1 d2 d3
    omega
theorem and_bd (a b : Int) (ha0 : 0 ≤ a) (ha : a < 18446744073709551616) (hb0 : 0 ≤ b) (hb : b < 18446744073709551616) : 0 ≤ bits .and .u64 a b ∧ bits .and .u64 a b < 18446744073709551616 := by
  obtain ⟨A, rfl⟩ := Int.eq_ofNat_of_zero_le ha0
  obtain ⟨B, rfl⟩ := Int.eq_ofNat_of_zero_le hb0
  rw [u64_and_nat A B (by omega) (by omega)]
  have := Nat.and_lt_two_pow (n := 64) A (y := B) (by omega)
  omega
theorem or_bd (a b : Int) (ha0 : 0 ≤ a) (ha : a < 18446744073709551616) (hb0 : 0 ≤ b) (hb : b < 18446744073709551616) : 0 ≤ bits .or .u64 a b ∧ bits .or .u64 a b < 18446744073709551616 := by
  obtain ⟨A, rfl⟩ := Int.eq_ofNat_of_zero_le ha0
  obtain ⟨B, rfl⟩ := Int.eq_ofNat_of_zero_le hb0
  rw [u64_or_nat A B (by omega) (by omega)]
  have := Nat.or_lt_two_pow (n := 64) (x := A) (y := B) (by omega) (by omega)
  omega
theorem and_or (a b : Int) (ha0 : 0 ≤ a) (ha : a < 18446744073709551616) (hb0 : 0 ≤ b) (hb : b < 18446744073709551616) : bits .and .u64 a b + bits .or .u64 a b = a + b := by
  obtain ⟨A, rfl⟩ := Int.eq_ofNat_of_zero_le ha0
  obtain ⟨B, rfl⟩ := Int.eq_ofNat_of_zero_le hb0
  rw [u64_and_nat A B (by omega) (by omega), u64_or_nat A B (by omega) (by omega)]
  have := (nat_logic 64 A B (by omega) (by omega)).1
  omega
theorem or_sub (a b : Int) (ha0 : 0 ≤ a) (ha : a < 18446744073709551616) (hb0 : 0 ≤ b) (hb : b < 18446744073709551616) : bits .or .u64 a b = bits .and .u64 a b + bits .xor .u64 a b ∧ 0 ≤ bits .xor .u64 a b := by
  obtain ⟨A, rfl⟩ := Int.eq_ofNat_of_zero_le ha0
  obtain ⟨B, rfl⟩ := Int.eq_ofNat_of_zero_le hb0
  rw [u64_and_nat A B (by omega) (by omega), u64_or_nat A B (by omega) (by omega), u64_xor_nat A B (by omega) (by omega)]
  have := (nat_logic 64 A B (by omega) (by omega)).2
  omega
theorem xor_comm' (a b : Int) (ha0 : 0 ≤ a) (ha : a < 18446744073709551616) (hb0 : 0 ≤ b) (hb : b < 18446744073709551616) : bits .xor .u64 a b = bits .xor .u64 b a := by
  obtain ⟨A, rfl⟩ := Int.eq_ofNat_of_zero_le ha0
  obtain ⟨B, rfl⟩ := Int.eq_ofNat_of_zero_le hb0
  rw [u64_xor_nat A B (by omega) (by omega), u64_xor_nat B A (by omega) (by omega), Nat.xor_comm]

/-! ### The walk: the Go text returns true -/
set_option maxHeartbeats 1000000 in
theorem walk (a0 : Int) (a1 : Int) (w0 : (Lit.int .u64 a0).wf = true) (w1 : (Lit.int .u64 a1).wf = true) (w : World) :
    Calls Try.prog 8 #[.int .u64 a0, .int .u64 a1] w fun e w' => e = .returned (.bool true) ∧ Grown w w' := by
  obtain ⟨ha0, ha1⟩ := bounds_u64 w0
  obtain ⟨hb0, hb1⟩ := bounds_u64 w1
  have ha : a0 < 18446744073709551616 := by omega
  have hb : a1 < 18446744073709551616 := by omega
  clear ha1 hb1
  have hA := and_bd a0 a1 ha0 ha hb0 hb
  have hO := or_bd a0 a1 ha0 ha hb0 hb
  have e1 := or_sub a0 a1 ha0 ha hb0 hb
  have e2 := and_or a0 a1 ha0 ha hb0 hb
  have hN : bits .xor .u64 a0 18446744073709551615 = 18446744073709551615 - a0 := by rw [xor_comm' a0 _ ha0 ha (by decide) (by decide)]; exact not_word a0 ha0 ha
  have HN := Lib.hid hN; clear hN
  generalize hA' : bits .and .u64 a0 a1 = A at *
  generalize hO' : bits .or .u64 a0 a1 = O at *
  generalize hX' : bits .xor .u64 a0 a1 = X at *
  have AA := Lib.hid hA'; clear hA'
  have OO := Lib.hid hO'; clear hO'
  have XX := Lib.hid hX'; clear hX'
  have t1 : (IntKind.u64.wrap (O - A) == X) = true := by rw [beq_iff_eq, IntKind.wrap_u64]; omega
  have t2 := Lib.hid (show IntKind.u64.wrap (A + O) = IntKind.u64.wrap (a0 + a1) by rw [e2])
  have t3 := Lib.hid (show IntKind.u64.wrap (18446744073709551615 - a0 + 1) = IntKind.u64.wrap (-a0) by simp only [IntKind.wrap_u64]; omega)
  have t4 : O - A = X := by omega
  have hX : 0 ≤ X := by omega
  clear e1 e2 t4
  go_enter Try.func8, Try.ntmps8
  go_wp2_with fail
  refine (do_yes 40 a0 a1 _ (by decide) ha0 ha hb0 hb).mono ?_
  rintro e w' ⟨rfl, rfl⟩
  rw [show doV 40 a0 a1 = bits .and .u64 a0 a1 from rfl, AA.out]
  go_wp2_with fail
  refine (do_yes 39 a0 a1 _ (by decide) ha0 ha hb0 hb).mono ?_
  rintro e w' ⟨rfl, rfl⟩
  rw [show doV 39 a0 a1 = bits .or .u64 a0 a1 from rfl, OO.out]
  go_wp2_with fail
  refine (do_yes 36 a0 a1 _ (by decide) ha0 ha hb0 hb).mono ?_
  rintro e w' ⟨rfl, rfl⟩
  rw [show doV 36 a0 a1 = bits .xor .u64 a0 a1 from rfl, XX.out]
  go_wp2_with fail
  refine (do_yes 31 A O _ (by decide) hA.1 hA.2 hO.1 hO.2).mono ?_
  rintro e w' ⟨rfl, rfl⟩
  rw [show doV 31 A O = IntKind.u64.wrap (A + O) from rfl, t2.out]
  go_wp2_with fail
  refine (do_yes 31 a0 a1 _ (by decide) ha0 ha hb0 hb).mono ?_
  rintro e w' ⟨rfl, rfl⟩
  rw [show doV 31 a0 a1 = IntKind.u64.wrap (a0 + a1) from rfl]
  generalize IntKind.u64.wrap (a0 + a1) = S at *
  go_wp2_with fail
  refine (do_yes 25 a0 18446744073709551615 _ (by decide) ha0 ha (by decide) (by decide)).mono ?_
  rintro e w' ⟨rfl, rfl⟩
  rw [show doV 25 a0 18446744073709551615 = bits .xor .u64 a0 18446744073709551615 from rfl, HN.out]
  go_wp2_with fail
  refine (do_yes 32 0 a0 _ (by decide) (by decide) (by decide) ha0 ha).mono ?_
  rintro e w' ⟨rfl, rfl⟩
  rw [show doV 32 0 a0 = IntKind.u64.wrap (-a0) by show IntKind.u64.wrap (0 - a0) = _; rw [Int.zero_sub]]
  go_wp2_with fail
  refine (do_yes 22 (18446744073709551615 - a0) 1 _ (by decide) (by omega) (by omega) (by decide) (by decide)).mono ?_
  rintro e w' ⟨rfl, rfl⟩
  rw [show doV 22 (18446744073709551615 - a0) 1 = IntKind.u64.wrap (18446744073709551615 - a0 + 1) from rfl, t3.out]
  generalize IntKind.u64.wrap (-a0) = M at *
  go_wp2_with fail
  refine (answers2_any _).mono ?_
  rintro e w' ⟨rfl, rfl⟩
  go_wp2
  go_ret
  exact ⟨rfl, Grown.refl _⟩

/-! ### The row's step -/
set_option maxRecDepth 100000 in
theorem lifted (os : Os) (started : os.Started) (H : Type) (enc : TypeId × Value → H) :
    ReturnsInHanded {} Try.checked os 8 .any (Rows.aluLogicSpec.pre6 enc Try.prog Try.f8 Rows.aluLogicRow.domain false) (Rows.aluLogicSpec.post enc Try.prog Try.f8 false true false false) := by
  refine returnsInHanded_of_change (C := Try.checked) own started (by kernel_rfl) Try.func8
    (ChangeSpec.witness6 (enc := enc) (C := Try.checked) false ⟨#[], #[.int .u64 0, .int .u64 0], []⟩ 8 (by kernel_rfl) (by kernel_rfl) (by kernel_rfl) (by kernel_rfl)) ?_
  intro W base args ds gs before hval0 hW hcnd _
  have hval : ∀ (j : Nat) t v, Try.f8.params[j]? = some t → args[j]? = some v → Value.okWide Try.prog W .any base t v := hval0
  have hW' := hW
  obtain ⟨p, q, hA0, hV, rfl, hfz, hnd⟩ := hW
  have hA : DataW.TrodAll enc Try.prog W 0 (fun _ => true) true Try.f8.params.toList args.toList ds p := hA0
  rw [Try.params8] at hA hval
  obtain ⟨v0, vs0, d0, ds0, p0, q0, hargs, rfl, rfl, h0, r0⟩ := trodAll_cons hA
  obtain ⟨v1, vs1, d1, ds1, p1, q1, rfl, rfl, rfl, h1, r1⟩ := trodAll_cons r0
  obtain ⟨rfl, rfl, rfl⟩ := trodAll_nil r1
  obtain rfl : args = #[v0, v1] := by cases args; simp_all
  obtain ⟨rfl, rfl⟩ := trodVars_none hV
  obtain ⟨a0, rfl, rfl, rfl, w0⟩ := open_int Try.underlying22 (hval 0 22 v0 rfl rfl) h0
  obtain ⟨a1, rfl, rfl, rfl, w1⟩ := open_int Try.underlying22 (hval 1 22 v1 rfl rfl) h1
  clear hA0 hval0
  simp only [List.append_nil] at hW'
  refine (walk a0 a1 w0 w1 W).mono fun e W' ⟨he, hg⟩ => ?_
  subst he
  exact ⟨_, rfl, post_of_same (pa := []) (pv := []) hW' (fun _ _ _ => (trodAll_cons_mk (shut_bool Try.underlying4 _) trodAll_mk0)) (fun sp _ => (trodAll_cons_mk (shut_int Try.underlying22 w0) (trodAll_cons_mk (shut_int Try.underlying22 w1) trodAll_mk0))) (fun _ _ => rfl) rfl
    (hg.frame _) hg.2.1 (ok_one (by kernel_rfl) rfl (okWide_bool_mk Try.underlying4 _))⟩

theorem over : Rows.aluLogicRow.holds Try.pinned (OpenSpec.ofChange Rows.aluLogicSpec) :=
  OpenClaim.holds_of_wide 8 Try.f8 rfl rfl rfl rfl rfl rfl rfl ⟨rfl, rfl, rfl, rfl, rfl⟩ rfl rfl rfl rfl rfl (by kernel_rfl) Try.func8 (by kernel_rfl)
    (of_decide_eq_true (by kernel_rfl)) (by unfold Func.isWrapper; first | (rw [if_pos (by decide +kernel)]; kernel_rfl) | (rw [if_neg (by decide +kernel)]; exact ⟨rfl, rfl⟩))
    (fun os started H enc _ => lifted os started H enc)

/-- The statement. -/
theorem proved : Rows.AluLogicSaid :=
  over
end Go.Proofs.Ytfeohadlblpmcaa.aluLogic

namespace Go.Proofs.Ytfeohadlblpmcaa
/-- The statement, proved. -/
theorem aluLogic_holds : Rows.AluLogicSaid := aluLogic.proved
#print axioms aluLogic_holds
end Go.Proofs.Ytfeohadlblpmcaa
