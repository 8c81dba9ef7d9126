/-
  What the program's Do and Known answer, whatever the operator is.
-/
import Derived.Test.YtfeohadlblpmcaaAluA
namespace Go.Proofs.Ytfeohadlblpmcaa
open Go.RowKit
set_option linter.unusedVariables false

/-- Of the lowest 32 bits, filled by the sign. -/
def narrowV (op a b : Int) : Int := if op ∈ npOps then sextI (npV op (a % 4294967296) (b % 4294967296)) 32 else sextI (nqV op (a % 4294967296) (b % 4294967296)) 32
def narrowOps : List Int := npOps ++ nqOps

theorem np_bd (op a b : Int) (ha0 : 0 ≤ a) (ha : a < 4294967296) : 0 ≤ npV op a b ∧ npV op a b < 4294967296 := by
  have hq : 0 ≤ a / 2 ^ (b % 32).toNat ∧ a / 2 ^ (b % 32).toNat ≤ a := quo_le a _ ha0 (pow_pos' _)
  unfold npV
  repeat' split
  all_goals omega
theorem nq_bd (op a b : Int) : 0 ≤ nqV op a b ∧ nqV op a b < 4294967296 := by
  unfold nqV
  repeat' split
  all_goals omega

set_option maxHeartbeats 1000000 in
theorem narrow_yes (op a b : Int) (w : World) (hop : op ∈ narrowOps) (ha0 : 0 ≤ a) (ha : a < 18446744073709551616) (hb0 : 0 ≤ b) (hb : b < 18446744073709551616) :
    Calls Try.prog 21 #[.int .i64 op, .int .u64 a, .int .u64 b] w fun e w' => e = .returned (.tuple #[.int .u64 (narrowV op a b), .bool true]) ∧ w = w' := by
  by_cases h : op ∈ npOps
  · unfold narrowV; rw [if_pos h]
    have hbd := np_bd op (a % 4294967296) (b % 4294967296) (by omega) (by omega)
    have c := fun w => np_yes op (a % 4294967296) (b % 4294967296) w h (by omega) (by omega) (by omega) (by omega)
    clear h hop
    generalize npV op (a % 4294967296) (b % 4294967296) = r at *
    go_enter Try.func21, Try.ntmps21
    go_wp2_with fail
    refine (c _).mono ?_
    rintro e w' ⟨rfl, rfl⟩
    clear c
    go_wp2_with fail
    refine (sext_any _ _ _).mono ?_
    rintro e w' ⟨rfl, rfl⟩
    go_wp2
    go_ret2
    exact ⟨rfl, rfl⟩
  · unfold narrowV; rw [if_neg h]
    have h2 : op ∈ nqOps := by
      rcases List.mem_append.1 hop with k | k
      · exact absurd k h
      · exact k
    have hbd := nq_bd op (a % 4294967296) (b % 4294967296)
    have c := fun w => np_no op (a % 4294967296) (b % 4294967296) w h
    have d := fun w => nq_yes op (a % 4294967296) (b % 4294967296) w h2 (by omega) (by omega) (by omega) (by omega)
    clear h hop h2
    generalize nqV op (a % 4294967296) (b % 4294967296) = r at *
    go_enter Try.func21, Try.ntmps21
    go_wp2_with fail
    refine (c _).mono ?_
    rintro e w' ⟨rfl, rfl⟩
    clear c
    go_wp2_with fail
    refine (d _).mono ?_
    rintro e w' ⟨rfl, rfl⟩
    clear d
    go_wp2_with fail
    refine (sext_any _ _ _).mono ?_
    rintro e w' ⟨rfl, rfl⟩
    go_wp2
    go_ret2
    exact ⟨rfl, rfl⟩
set_option maxHeartbeats 1000000 in
theorem narrow_no (op a b : Int) (w : World) (hop : op ∉ narrowOps) :
    Calls Try.prog 21 #[.int .i64 op, .int .u64 a, .int .u64 b] w fun e w' => e = .returned (.tuple #[.int .u64 0, .bool false]) ∧ w = w' := by
  have h1 : op ∉ npOps := fun h => hop (List.mem_append.2 (.inl h))
  have h2 : op ∉ nqOps := fun h => hop (List.mem_append.2 (.inr h))
  have c := fun w => np_no op (a % 4294967296) (b % 4294967296) w h1
  have d := fun w => nq_no op (a % 4294967296) (b % 4294967296) w h2
  clear h1 h2 hop
  go_enter Try.func21, Try.ntmps21
  go_wp2_with fail
  refine (c _).mono ?_
  rintro e w' ⟨rfl, rfl⟩
  clear c
  go_wp2_with fail
  refine (d _).mono ?_
  rintro e w' ⟨rfl, rfl⟩
  clear d
  go_wp2_with fail
  refine (sext_any _ _ _).mono ?_
  rintro e w' ⟨rfl, rfl⟩
  go_wp2
  go_ret2
  exact ⟨rfl, rfl⟩

/-- What each operator reckons. -/
def doV (op a b : Int) : Int :=
  if op ∈ plainOps then plainV op a b else if op ∈ shiftOps then shiftV op a b else if op ∈ productOps then productV op a b
  else if op ∈ quotientOps then quotientV op a b else narrowV op a b
def doOps : List Int := plainOps ++ (shiftOps ++ (productOps ++ (quotientOps ++ narrowOps)))

set_option maxHeartbeats 1000000 in
theorem do_yes (op a b : Int) (w : World) (hop : op ∈ doOps) (ha0 : 0 ≤ a) (ha : a < 18446744073709551616) (hb0 : 0 ≤ b) (hb : b < 18446744073709551616) :
    Calls Try.prog 10 #[.int .i64 op, .int .u64 a, .int .u64 b] w fun e w' => e = .returned (.tuple #[.int .u64 (doV op a b), .bool true]) ∧ w = w' := by
  unfold doV
  by_cases h1 : op ∈ plainOps
  · rw [if_pos h1]
    have c1 := fun w => plain_yes op a b w h1
    clear h1 hop
    go_enter Try.func10, Try.ntmps10
    go_wp2_with fail
    refine (c1 _).mono ?_
    rintro e w' ⟨rfl, rfl⟩
    clear c1
    go_wp2
    go_ret2
    exact ⟨rfl, rfl⟩
  rw [if_neg h1]
  have c1 := fun w => plain_no op a b w h1
  by_cases h2 : op ∈ shiftOps
  · rw [if_pos h2]
    have c2 := fun w => shift_yes op a b w h2 ha0 ha hb0 hb
    clear h1 h2 hop
    go_enter Try.func10, Try.ntmps10
    go_wp2_with fail
    refine (c1 _).mono ?_
    rintro e w' ⟨rfl, rfl⟩
    clear c1
    go_wp2_with fail
    refine (c2 _).mono ?_
    rintro e w' ⟨rfl, rfl⟩
    clear c2
    go_wp2
    go_ret2
    exact ⟨rfl, rfl⟩
  rw [if_neg h2]
  have c2 := fun w => shift_no op a b w h2
  by_cases h3 : op ∈ productOps
  · rw [if_pos h3]
    have c3 := fun w => product_yes op a b w h3 ha0 ha hb0 hb
    clear h1 h2 h3 hop
    go_enter Try.func10, Try.ntmps10
    go_wp2_with fail
    refine (c1 _).mono ?_
    rintro e w' ⟨rfl, rfl⟩
    clear c1
    go_wp2_with fail
    refine (c2 _).mono ?_
    rintro e w' ⟨rfl, rfl⟩
    clear c2
    go_wp2_with fail
    refine (c3 _).mono ?_
    rintro e w' ⟨rfl, rfl⟩
    clear c3
    go_wp2
    go_ret2
    exact ⟨rfl, rfl⟩
  rw [if_neg h3]
  have c3 := fun w => product_no op a b w h3
  by_cases h4 : op ∈ quotientOps
  · rw [if_pos h4]
    have c4 := fun w => quotient_yes op a b w h4 ha0 ha hb0 hb
    clear h1 h2 h3 h4 hop
    go_enter Try.func10, Try.ntmps10
    go_wp2_with fail
    refine (c1 _).mono ?_
    rintro e w' ⟨rfl, rfl⟩
    clear c1
    go_wp2_with fail
    refine (c2 _).mono ?_
    rintro e w' ⟨rfl, rfl⟩
    clear c2
    go_wp2_with fail
    refine (c3 _).mono ?_
    rintro e w' ⟨rfl, rfl⟩
    clear c3
    go_wp2_with fail
    refine (c4 _).mono ?_
    rintro e w' ⟨rfl, rfl⟩
    clear c4
    go_wp2
    go_ret2
    exact ⟨rfl, rfl⟩
  rw [if_neg h4]
  have c4 := fun w => quotient_no op a b w h4
  have h5 : op ∈ narrowOps := by
    unfold doOps at hop
    rcases List.mem_append.1 hop with k | k
    · exact absurd k h1
    rcases List.mem_append.1 k with k | k
    · exact absurd k h2
    rcases List.mem_append.1 k with k | k
    · exact absurd k h3
    rcases List.mem_append.1 k with k | k
    · exact absurd k h4
    exact k
  have c5 := fun w => narrow_yes op a b w h5 ha0 ha hb0 hb
  clear h1 h2 h3 h4 h5 hop
  go_enter Try.func10, Try.ntmps10
  go_wp2_with fail
  refine (c1 _).mono ?_
  rintro e w' ⟨rfl, rfl⟩
  clear c1
  go_wp2_with fail
  refine (c2 _).mono ?_
  rintro e w' ⟨rfl, rfl⟩
  clear c2
  go_wp2_with fail
  refine (c3 _).mono ?_
  rintro e w' ⟨rfl, rfl⟩
  clear c3
  go_wp2_with fail
  refine (c4 _).mono ?_
  rintro e w' ⟨rfl, rfl⟩
  clear c4
  go_wp2_with fail
  refine (c5 _).mono ?_
  rintro e w' ⟨rfl, rfl⟩
  clear c5
  go_wp2
  go_ret2
  exact ⟨rfl, rfl⟩
set_option maxHeartbeats 1000000 in
theorem do_no (op a b : Int) (w : World) (hop : op ∉ doOps) :
    Calls Try.prog 10 #[.int .i64 op, .int .u64 a, .int .u64 b] w fun e w' => e = .returned (.tuple #[.int .u64 0, .bool false]) ∧ w = w' := by
  simp only [doOps, List.mem_append, not_or] at hop
  obtain ⟨h1, h2, h3, h4, h5⟩ := hop
  have c1 := fun w => plain_no op a b w h1
  have c2 := fun w => shift_no op a b w h2
  have c3 := fun w => product_no op a b w h3
  have c4 := fun w => quotient_no op a b w h4
  have c5 := fun w => narrow_no op a b w h5
  clear h1 h2 h3 h4 h5
  go_enter Try.func10, Try.ntmps10
  go_wp2_with fail
  refine (c1 _).mono ?_
  rintro e w' ⟨rfl, rfl⟩
  clear c1
  go_wp2_with fail
  refine (c2 _).mono ?_
  rintro e w' ⟨rfl, rfl⟩
  clear c2
  go_wp2_with fail
  refine (c3 _).mono ?_
  rintro e w' ⟨rfl, rfl⟩
  clear c3
  go_wp2_with fail
  refine (c4 _).mono ?_
  rintro e w' ⟨rfl, rfl⟩
  clear c4
  go_wp2_with fail
  refine (c5 _).mono ?_
  rintro e w' ⟨rfl, rfl⟩
  clear c5
  go_wp2
  go_ret2
  exact ⟨rfl, rfl⟩

set_option maxHeartbeats 1000000 in
theorem answers2_any (w : World) : Calls Try.prog 12 #[] w fun e w' => e = .returned (.bool true) ∧ w = w' := by
  go_enter Try.func12, Try.ntmps12
  go_wp2_with fail
  refine (do_yes _ _ _ _ (by decide) (by decide) (by decide) (by decide) (by decide)).mono ?_
  rintro e w' ⟨rfl, rfl⟩
  rw [show doV 31 2 3 = 5 from rfl]
  go_wp2
  go_ret
  exact ⟨rfl, rfl⟩
end Go.Proofs.Ytfeohadlblpmcaa
