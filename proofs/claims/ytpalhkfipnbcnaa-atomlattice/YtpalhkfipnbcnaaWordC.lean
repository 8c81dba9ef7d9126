/-
  Contracts of the functions that fill words by their signs and hold them against each other, of the program and of the reference.
-/
import Derived.Test.YtpalhkfipnbcnaaWordB
import Derived.Test.YtpalhkfipnbcnaaRegB
set_option linter.unusedVariables false
set_option linter.unusedSimpArgs false
namespace Go.Proofs.Ytpalhkfipnbcnaa
open Go.RowKit
theorem ret_pairb {k : IntKind} {a b : Int} {c : Bool} (h : a = b) : Ending.returned (.tuple #[.int k a, .bool c]) = .returned (.tuple #[.int k b, .bool c]) := by rw [h]
theorem nin {op k : Int} (h : ¬ op = k) : (op == k) = false := beq_eq_false_iff_ne.2 h
theorem ret_int {k : IntKind} {a b : Int} (h : a = b) : Ending.returned (.int k a) = .returned (.int k b) := by rw [h]
theorem ret_bool {a b : Bool} (h : a = b) : Ending.returned (.bool a) = .returned (.bool b) := by rw [h]

/-- Filled by the sign: as chapter 1 says it. -/
def sextI (x b : Int) : Int := if 1 ≤ b ∧ b ≤ 64 then sx x b.toNat else x

set_option maxHeartbeats 400000 in
theorem sext_any (x b : Int) (w : World) :
    Calls Try.prog 22 #[.int .u64 x, .int .i64 b] w fun e w' => e = .returned (.int .u64 (sextI x b)) ∧ w = w' := by
  by_cases hb : 1 ≤ b ∧ b ≤ 64
  · obtain ⟨h1, h2⟩ := hb
    obtain ⟨n, rfl⟩ := Int.eq_ofNat_of_zero_le (show 0 ≤ b by omega)
    have hs := Lib.hid (shifts x n (by omega) (by omega))
    go_enter Try.func22, Try.ntmps22
    go_wp2
    go_ret
    exact ⟨ret_int (by rw [hs.out]; unfold sextI; rw [if_pos ⟨h1, h2⟩]; rfl), rfl⟩
  · by_cases h1 : b < 1
    · go_enter Try.func22, Try.ntmps22
      go_wp2
      go_ret
      exact ⟨ret_int (by unfold sextI; rw [if_neg hb]), rfl⟩
    · have h2 : 64 < b := by omega
      go_enter Try.func22, Try.ntmps22
      go_wp2
      go_ret
      exact ⟨ret_int (by unfold sextI; rw [if_neg hb]), rfl⟩

set_option maxHeartbeats 400000 in
theorem bit_any (x i : Int) (w : World) (hx0 : 0 ≤ x) (hi0 : 0 ≤ i) (hi : i < 64) :
    Calls Try.prog 42 #[.int .u64 x, .int .i64 i] w fun e w' => e = .returned (.int .u64 (x / 2 ^ i.toNat % 2)) ∧ w = w' := by
  obtain ⟨X, rfl⟩ := Int.eq_ofNat_of_zero_le hx0
  obtain ⟨n, rfl⟩ := Int.eq_ofNat_of_zero_le hi0
  go_enter Try.func42, Try.ntmps42
  go_wp2
  go_ret
  exact ⟨ret_int (by rw [Int.toNat_natCast]; exact Int.tmod_eq_emod_of_nonneg (Int.ediv_nonneg (by omega) (Int.le_of_lt (pow_pos' _)))), rfl⟩

set_option maxHeartbeats 1000000 in
theorem refSext_any (x b : Int) (w : World) (hx0 : 0 ≤ x) :
    Calls Try.prog 19 #[.int .u64 x, .int .i64 b] w fun e w' => e = .returned (.int .u64 (sextI x b)) ∧ w = w' := by
  by_cases hb : 1 ≤ b ∧ b ≤ 64
  · obtain ⟨h1, h2⟩ := hb
    obtain ⟨n, rfl⟩ := Int.eq_ofNat_of_zero_le (show 0 ≤ b by omega)
    have fin : sextI x (n : Int) = sx x n := by unfold sextI; rw [if_pos ⟨h1, h2⟩]; rfl
    rw [fin]; clear fin
    go_enter Try.func19, Try.ntmps19
    go_wp2
    go_loop [5, 6] (fun o i => ∃ k : Nat, k ≤ 64 ∧ i = .int .i64 k ∧ o = .int .u64 (sx x n % 2 ^ k)) (fun _ i => 64 - (intOf i).toNat)
    case atStart => exact ⟨0, by omega, rfl, by simp [Int.emod_one]⟩
    case round =>
      obtain ⟨k, hk, rfl, rfl⟩ := hrel
      by_cases hlt : k < 64
      · by_cases hkn : k ≤ n - 1
        · have hs := Lib.hid (sx_bit x n k (by omega) hlt)
          have ho := Lib.hid (or_bit (sx x n) k hlt)
          have hc : (k : Int) ≤ (n : Int) - 1 := by omega
          go_wp2_with fail
          refine (bit_any _ _ _ hx0 (by omega) (by omega)).mono ?_
          rintro e w' ⟨rfl, rfl⟩
          go_wp2
          go_round
          case rel => exact ⟨k + 1, by omega, by go_num, by rw [← ho.out, hs.out, Nat.min_eq_left hkn]⟩
          case measure => simp [intOf]; omega
        · have hs := Lib.hid (sx_bit x n k (by omega) hlt)
          have ho := Lib.hid (or_bit (sx x n) k hlt)
          have hc : (n : Int) - 1 < (k : Int) := by omega
          have hn : ((n : Int) - 1).toNat = n - 1 := by omega
          have hN := Lib.hid hn; clear hn
          go_wp2_with fail
          refine (bit_any _ _ _ hx0 (by omega) (by omega)).mono ?_
          rintro e w' ⟨rfl, rfl⟩
          rw [hN.out]
          go_wp2
          go_round
          case rel => exact ⟨k + 1, by omega, by go_num, by rw [← ho.out, hs.out, Nat.min_eq_right (by omega)]⟩
          case measure => simp [intOf]; omega
      · obtain rfl : k = 64 := by omega
        go_wp2
        go_ret
        exact ⟨ret_int (Int.emod_eq_of_lt (sx_bd x n).1 (sx_bd x n).2), rfl⟩
  · by_cases h1 : b < 1
    · go_enter Try.func19, Try.ntmps19
      go_wp2
      go_ret
      exact ⟨ret_int (by unfold sextI; rw [if_neg hb]), rfl⟩
    · have h2 : 64 < b := by omega
      go_enter Try.func19, Try.ntmps19
      go_wp2
      go_ret
      exact ⟨ret_int (by unfold sextI; rw [if_neg hb]), rfl⟩
def isNeg (x : Int) : Bool := x / 2 ^ 63 % 2 == 1
theorem isNeg_iff (x : Int) (h0 : 0 ≤ x) (h : x < 18446744073709551616) : isNeg x = true ↔ 9223372036854775808 ≤ x := by
  unfold isNeg; rw [beq_iff_eq, show (2 : Int) ^ 63 = 9223372036854775808 from rfl]; omega
theorem isNeg_wrap (x : Int) (h0 : 0 ≤ x) (h : x < 18446744073709551616) : isNeg x = true ↔ wrap64 x < 0 := by
  rw [isNeg_iff x h0 h]; unfold wrap64; omega

set_option maxHeartbeats 400000 in
theorem minus_any (x : Int) (w : World) (hx0 : 0 ≤ x) :
    Calls Try.prog 45 #[.int .u64 x] w fun e w' => e = .returned (.bool (isNeg x)) ∧ w = w' := by
  go_enter Try.func45, Try.ntmps45
  go_wp2_with fail
  refine (bit_any _ _ _ hx0 (by omega) (by omega)).mono ?_
  rintro e w' ⟨rfl, rfl⟩
  rw [show (63 : Int).toNat = 63 from rfl]
  go_wp2
  go_ret
  exact ⟨rfl, rfl⟩

set_option maxHeartbeats 1000000 in
theorem less_any (a b : Int) (w : World) (ha0 : 0 ≤ a) (ha : a < 18446744073709551616) (hb0 : 0 ≤ b) (hb : b < 18446744073709551616) :
    Calls Try.prog 26 #[.int .u64 a, .int .u64 b] w fun e w' => e = .returned (.bool (decide (wrap64 a < wrap64 b))) ∧ w = w' := by
  have na := isNeg_iff a ha0 ha
  have nb := isNeg_iff b hb0 hb
  cases hna : isNeg a <;> cases hnb : isNeg b
  · have e : decide (wrap64 a < wrap64 b) = decide (a < b) := by
      rw [hna] at na; rw [hnb] at nb; simp at na nb
      unfold wrap64; exact decide_eq_decide.2 (by omega)
    rw [e]; clear e na nb
    have HA := Lib.hid hna; clear hna
    have HB := Lib.hid hnb; clear hnb
    go_enter Try.func26, Try.ntmps26
    go_wp2_with fail
    refine (minus_any a _ ha0).mono ?_
    rintro e w' ⟨rfl, rfl⟩
    rw [HA.out]
    go_wp2_with fail
    refine (minus_any b _ hb0).mono ?_
    rintro e w' ⟨rfl, rfl⟩
    rw [HB.out]
    go_wp2
    go_ret
    exact ⟨rfl, rfl⟩
  · have e : decide (wrap64 a < wrap64 b) = false := by
      rw [hna] at na; rw [hnb] at nb; simp at na nb
      unfold wrap64; exact decide_eq_false (by omega)
    rw [e]; clear e na nb
    have HA := Lib.hid hna; clear hna
    have HB := Lib.hid hnb; clear hnb
    go_enter Try.func26, Try.ntmps26
    go_wp2_with fail
    refine (minus_any a _ ha0).mono ?_
    rintro e w' ⟨rfl, rfl⟩
    rw [HA.out]
    go_wp2_with fail
    refine (minus_any b _ hb0).mono ?_
    rintro e w' ⟨rfl, rfl⟩
    rw [HB.out]
    go_wp2_with fail
    refine (minus_any a _ ha0).mono ?_
    rintro e w' ⟨rfl, rfl⟩
    rw [HA.out]
    go_wp2
    go_ret
    exact ⟨rfl, rfl⟩
  · have e : decide (wrap64 a < wrap64 b) = true := by
      rw [hna] at na; rw [hnb] at nb; simp at na nb
      unfold wrap64; exact decide_eq_true (by omega)
    rw [e]; clear e na nb
    have HA := Lib.hid hna; clear hna
    have HB := Lib.hid hnb; clear hnb
    go_enter Try.func26, Try.ntmps26
    go_wp2_with fail
    refine (minus_any a _ ha0).mono ?_
    rintro e w' ⟨rfl, rfl⟩
    rw [HA.out]
    go_wp2_with fail
    refine (minus_any b _ hb0).mono ?_
    rintro e w' ⟨rfl, rfl⟩
    rw [HB.out]
    go_wp2_with fail
    refine (minus_any a _ ha0).mono ?_
    rintro e w' ⟨rfl, rfl⟩
    rw [HA.out]
    go_wp2
    go_ret
    exact ⟨rfl, rfl⟩
  · have e : decide (wrap64 a < wrap64 b) = decide (a < b) := by
      rw [hna] at na; rw [hnb] at nb; simp at na nb
      unfold wrap64; exact decide_eq_decide.2 (by omega)
    rw [e]; clear e na nb
    have HA := Lib.hid hna; clear hna
    have HB := Lib.hid hnb; clear hnb
    go_enter Try.func26, Try.ntmps26
    go_wp2_with fail
    refine (minus_any a _ ha0).mono ?_
    rintro e w' ⟨rfl, rfl⟩
    rw [HA.out]
    go_wp2_with fail
    refine (minus_any b _ hb0).mono ?_
    rintro e w' ⟨rfl, rfl⟩
    rw [HB.out]
    go_wp2
    go_ret
    exact ⟨rfl, rfl⟩

end Go.Proofs.Ytpalhkfipnbcnaa
