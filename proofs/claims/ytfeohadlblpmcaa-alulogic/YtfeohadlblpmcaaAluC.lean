/-
  What the reference's helpers of the operators answer: comparisons with a sign, shifts to the right.
-/
import Derived.Test.YtfeohadlblpmcaaAluB
namespace Go.Proofs.Ytfeohadlblpmcaa
open Go.RowKit
set_option linter.unusedVariables false

theorem truth_any (c : Bool) (w : World) : Calls Try.prog 22 #[.bool c] w fun e w' => e = .returned (.int .u64 (oneI c)) ∧ w = w' := by
  cases c
  · go_enter Try.func22, Try.ntmps22
    go_wp2
    go_ret
    exact ⟨rfl, rfl⟩
  · go_enter Try.func22, Try.ntmps22
    go_wp2
    go_ret
    exact ⟨rfl, rfl⟩

set_option maxHeartbeats 1000000 in
theorem less_any (a b : Int) (w : World) (ha0 : 0 ≤ a) (ha : a < 18446744073709551616) (hb0 : 0 ≤ b) (hb : b < 18446744073709551616) :
    Calls Try.prog 23 #[.int .u64 a, .int .u64 b] w fun e w' => e = .returned (.bool (decide (wrap64 a < wrap64 b))) ∧ w = w' := by
  have na := isNeg_iff a ha0 ha
  have nb := isNeg_iff b hb0 hb
  cases hna : isNeg a <;> cases hnb : isNeg b
  · have e : decide (wrap64 a < wrap64 b) = decide (a < b) := by
      rw [hna] at na; rw [hnb] at nb; simp at na nb
      unfold wrap64; exact decide_eq_decide.2 (by omega)
    rw [e]; clear e na nb
    have HA := Lib.hid hna; clear hna
    have HB := Lib.hid hnb; clear hnb
    go_enter Try.func23, Try.ntmps23
    go_wp2_with fail
    refine (minus_any a _ ha0).mono ?_
    rintro e w' ⟨rfl, rfl⟩
    rw [HA.out]
    go_wp2_with fail
    refine (minus_any b _ hb0).mono ?_
    rintro e w' ⟨rfl, rfl⟩
    rw [HB.out]
    go_wp2
    go_ret
    exact ⟨rfl, rfl⟩
  · have e : decide (wrap64 a < wrap64 b) = false := by
      rw [hna] at na; rw [hnb] at nb; simp at na nb
      unfold wrap64; exact decide_eq_false (by omega)
    rw [e]; clear e na nb
    have HA := Lib.hid hna; clear hna
    have HB := Lib.hid hnb; clear hnb
    go_enter Try.func23, Try.ntmps23
    go_wp2_with fail
    refine (minus_any a _ ha0).mono ?_
    rintro e w' ⟨rfl, rfl⟩
    rw [HA.out]
    go_wp2_with fail
    refine (minus_any b _ hb0).mono ?_
    rintro e w' ⟨rfl, rfl⟩
    rw [HB.out]
    go_wp2_with fail
    refine (minus_any a _ ha0).mono ?_
    rintro e w' ⟨rfl, rfl⟩
    rw [HA.out]
    go_wp2
    go_ret
    exact ⟨rfl, rfl⟩
  · have e : decide (wrap64 a < wrap64 b) = true := by
      rw [hna] at na; rw [hnb] at nb; simp at na nb
      unfold wrap64; exact decide_eq_true (by omega)
    rw [e]; clear e na nb
    have HA := Lib.hid hna; clear hna
    have HB := Lib.hid hnb; clear hnb
    go_enter Try.func23, Try.ntmps23
    go_wp2_with fail
    refine (minus_any a _ ha0).mono ?_
    rintro e w' ⟨rfl, rfl⟩
    rw [HA.out]
    go_wp2_with fail
    refine (minus_any b _ hb0).mono ?_
    rintro e w' ⟨rfl, rfl⟩
    rw [HB.out]
    go_wp2_with fail
    refine (minus_any a _ ha0).mono ?_
    rintro e w' ⟨rfl, rfl⟩
    rw [HA.out]
    go_wp2
    go_ret
    exact ⟨rfl, rfl⟩
  · have e : decide (wrap64 a < wrap64 b) = decide (a < b) := by
      rw [hna] at na; rw [hnb] at nb; simp at na nb
      unfold wrap64; exact decide_eq_decide.2 (by omega)
    rw [e]; clear e na nb
    have HA := Lib.hid hna; clear hna
    have HB := Lib.hid hnb; clear hnb
    go_enter Try.func23, Try.ntmps23
    go_wp2_with fail
    refine (minus_any a _ ha0).mono ?_
    rintro e w' ⟨rfl, rfl⟩
    rw [HA.out]
    go_wp2_with fail
    refine (minus_any b _ hb0).mono ?_
    rintro e w' ⟨rfl, rfl⟩
    rw [HB.out]
    go_wp2
    go_ret
    exact ⟨rfl, rfl⟩

/-- To the right by n, filled by f. -/
def rightI (a f : Int) (n : Nat) : Int := (a - f * 18446744073709551616) / 2 ^ n % 18446744073709551616
theorem right_next (a f : Int) (n : Nat) (ha0 : 0 ≤ a) (ha : a < 18446744073709551616) (hf : f = 0 ∨ f = 1) :
    bits .or .u64 (rightI a f n / 2) (IntKind.u64.wrap (f * 9223372036854775808)) = rightI a f (n + 1) := by
  have e : (a - f * 18446744073709551616) / 2 ^ (n + 1) = (a - f * 18446744073709551616) / 2 ^ n / 2 := by
    rw [Int.pow_succ, ← Int.ediv_ediv_of_nonneg (Int.le_of_lt (pow_pos' _))]
  have hp := pow_pos' n
  unfold rightI
  rw [e]
  rcases hf with rfl | rfl
  · have hq : 0 ≤ (a - 0 * 18446744073709551616) / 2 ^ n ∧ (a - 0 * 18446744073709551616) / 2 ^ n ≤ a := by
      have := quo_le a (2 ^ n) ha0 hp
      rw [Int.zero_mul, Int.sub_zero]; exact this
    generalize (a - 0 * 18446744073709551616) / 2 ^ n = v at *
    rw [show IntKind.u64.wrap (0 * 9223372036854775808) = 0 from rfl]
    obtain ⟨X, rfl⟩ := Int.eq_ofNat_of_zero_le hq.1
    have h1 : ((X : Int) % 18446744073709551616 / 2) = ((X / 2 : Nat) : Int) := by omega
    have := u64_or_nat (X / 2) 0 (by omega) (by decide)
    rw [h1, show (0 : Int) = ((0 : Nat) : Int) from rfl, this, Nat.or_zero]
    omega
  · have hq : -18446744073709551616 ≤ (a - 1 * 18446744073709551616) / 2 ^ n ∧ (a - 1 * 18446744073709551616) / 2 ^ n < 0 := by
      constructor
      · have h1 := Int.ediv_le_ediv hp (show -18446744073709551616 ≤ a - 1 * 18446744073709551616 by omega)
        have h2 : -18446744073709551616 ≤ (-18446744073709551616) / (2 : Int) ^ n := by
          rw [Int.le_ediv_iff_mul_le hp]
          have := Int.mul_le_mul_of_nonneg_left (show (1 : Int) ≤ 2 ^ n by omega) (show (0 : Int) ≤ 18446744073709551616 by decide)
          omega
        omega
      · exact Int.ediv_neg_of_neg_of_pos (by omega) hp
    generalize (a - 1 * 18446744073709551616) / 2 ^ n = v at *
    rw [show IntKind.u64.wrap (1 * 9223372036854775808) = 9223372036854775808 from rfl]
    obtain ⟨X, hX⟩ := Int.eq_ofNat_of_zero_le (show 0 ≤ v % 18446744073709551616 / 2 by omega)
    have h2 : X < 2 ^ 63 := by omega
    rw [hX, show (9223372036854775808 : Int) = ((9223372036854775808 : Nat) : Int) from rfl, u64_or_nat X 9223372036854775808 (by omega) (by decide), Nat.or_comm,
      nat_join 63 9223372036854775808 X (by decide) h2, Int.natCast_add]
    omega

set_option maxHeartbeats 1000000 in
theorem right_any (a f : Int) (n : Nat) (w : World) (ha0 : 0 ≤ a) (ha : a < 18446744073709551616) (hn : n ≤ 64) (hf : f = 0 ∨ f = 1) :
    Calls Try.prog 24 #[.int .u64 a, .int .u64 n, .int .u64 f] w fun e w' => e = .returned (.int .u64 (rightI a f n)) ∧ w = w' := by
  have st := Lib.hid (show a = rightI a f 0 by unfold rightI; rw [Int.pow_zero, Int.ediv_one]; rcases hf with rfl | rfl <;> omega)
  have FF := Lib.hid hf; clear hf
  go_enter Try.func24, Try.ntmps24
  go_wp2
  go_loop [0, 1] (fun x i => ∃ k : Nat, k ≤ n ∧ i = .int .u64 (n - k) ∧ x = .int .u64 (rightI a f k)) (fun _ i => (intOf i).toNat)
  case atStart => exact ⟨0, by omega, by simp, by rw [← st.out]⟩
  case round =>
    obtain ⟨k, hk, rfl, rfl⟩ := hrel
    have hb : 0 ≤ rightI a f k ∧ rightI a f k < 18446744073709551616 := by unfold rightI; omega
    by_cases hlt : k < n
    · have nx := Lib.hid (right_next a f k ha0 ha FF.out)
      go_wp2
      go_round
      case rel => exact ⟨k + 1, by omega, by go_num, by rw [nx.out]⟩
      case measure => simp [intOf]; omega
    · obtain rfl : k = n := by omega
      go_wp2
      go_ret
      exact ⟨rfl, rfl⟩
end Go.Proofs.Ytfeohadlblpmcaa
