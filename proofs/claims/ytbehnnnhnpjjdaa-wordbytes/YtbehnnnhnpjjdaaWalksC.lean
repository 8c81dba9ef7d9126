/-
  Contracts of the functions on quotients, remainders and ranges, of the program and of the reference.
-/
import Derived.Test.YtbehnnnhnpjjdaaWalksB
namespace Go.Proofs.Ytbehnnnhnpjjdaa
open Go.RowKit

def divuI (a b : Int) : Int := if b = 0 then 18446744073709551615 else a / b
def remuI (a b : Int) : Int := if b = 0 then a else a % b
def divI (a b : Int) : Int := if b = 0 then 18446744073709551615 else IntKind.u64.wrap (wrap64 ((wrap64 a).tdiv (wrap64 b)))
def remI (a b : Int) : Int := if b = 0 then a else IntKind.u64.wrap ((wrap64 a).tmod (wrap64 b))

theorem wrap_ne (b : Int) (hb0 : 0 ≤ b) (hb : b < 18446744073709551616) (h : ¬ b = 0) : ¬ wrap64 b = 0 := by unfold wrap64; omega

set_option maxHeartbeats 400000 in
theorem divu_any (a b : Int) (w : World) (ha0 : 0 ≤ a) (ha : a < 18446744073709551616) (hb0 : 0 ≤ b) :
    Calls Try.prog 21 #[.int .u64 a, .int .u64 b] w fun e w' => e = .returned (.int .u64 (divuI a b)) ∧ w = w' := by
  unfold divuI
  by_cases h : b = 0
  · subst h
    go_enter Try.func21, Try.ntmps21
    go_wp2
    go_ret
    exact ⟨rfl, rfl⟩
  · have h1 : 1 ≤ b := by omega
    rw [if_neg h]
    clear h
    go_enter Try.func21, Try.ntmps21
    go_wp2
    go_ret
    exact ⟨rfl, rfl⟩
set_option maxHeartbeats 400000 in
theorem remu_any (a b : Int) (w : World) (ha0 : 0 ≤ a) (ha : a < 18446744073709551616) (hb0 : 0 ≤ b) :
    Calls Try.prog 23 #[.int .u64 a, .int .u64 b] w fun e w' => e = .returned (.int .u64 (remuI a b)) ∧ w = w' := by
  unfold remuI
  by_cases h : b = 0
  · subst h
    go_enter Try.func23, Try.ntmps23
    go_wp2
    go_ret
    exact ⟨rfl, rfl⟩
  · have h1 : 1 ≤ b := by omega
    rw [if_neg h]
    clear h
    go_enter Try.func23, Try.ntmps23
    go_wp2
    go_ret
    exact ⟨rfl, rfl⟩
set_option maxHeartbeats 400000 in
theorem div_any (a b : Int) (w : World) (hb0 : 0 ≤ b) (hb : b < 18446744073709551616) :
    Calls Try.prog 25 #[.int .u64 a, .int .u64 b] w fun e w' => e = .returned (.int .u64 (divI a b)) ∧ w = w' := by
  unfold divI
  by_cases h : b = 0
  · subst h
    go_enter Try.func25, Try.ntmps25
    go_wp2
    go_ret
    exact ⟨rfl, rfl⟩
  · have h1 : 1 ≤ b := by omega
    have h2 := wrap_ne b hb0 hb h
    rw [if_neg h]
    clear h
    go_enter Try.func25, Try.ntmps25
    go_wp2
    go_ret
    exact ⟨rfl, rfl⟩
set_option maxHeartbeats 400000 in
theorem rem_any (a b : Int) (w : World) (hb0 : 0 ≤ b) (hb : b < 18446744073709551616) :
    Calls Try.prog 27 #[.int .u64 a, .int .u64 b] w fun e w' => e = .returned (.int .u64 (remI a b)) ∧ w = w' := by
  unfold remI
  by_cases h : b = 0
  · subst h
    go_enter Try.func27, Try.ntmps27
    go_wp2
    go_ret
    exact ⟨rfl, rfl⟩
  · have h1 : 1 ≤ b := by omega
    have h2 := wrap_ne b hb0 hb h
    rw [if_neg h]
    clear h
    go_enter Try.func27, Try.ntmps27
    go_wp2
    go_ret
    exact ⟨rfl, rfl⟩
set_option maxHeartbeats 400000 in
theorem refDivu_any (a b : Int) (w : World) (ha0 : 0 ≤ a) (ha : a < 18446744073709551616) (hb0 : 0 ≤ b) (hb : b < 18446744073709551616) :
    Calls Try.prog 22 #[.int .u64 a, .int .u64 b] w fun e w' => e = .returned (.int .u64 (divuI a b)) ∧ w = w' := by
  unfold divuI
  by_cases h : b = 0
  · subst h
    go_enter Try.func22, Try.ntmps22
    go_wp2
    go_ret
    exact ⟨rfl, rfl⟩
  · have h1 : 1 ≤ b := by omega
    rw [if_neg h]
    clear h
    go_enter Try.func22, Try.ntmps22
    go_wp2_with fail
    refine (divide_any a b _ ha0 ha (by omega) hb).mono ?_
    rintro e w' ⟨rfl, rfl⟩
    go_wp2
    go_ret
    exact ⟨rfl, rfl⟩
set_option maxHeartbeats 400000 in
theorem refRemu_any (a b : Int) (w : World) (ha0 : 0 ≤ a) (ha : a < 18446744073709551616) (hb0 : 0 ≤ b) (hb : b < 18446744073709551616) :
    Calls Try.prog 24 #[.int .u64 a, .int .u64 b] w fun e w' => e = .returned (.int .u64 (remuI a b)) ∧ w = w' := by
  unfold remuI
  by_cases h : b = 0
  · subst h
    go_enter Try.func24, Try.ntmps24
    go_wp2
    go_ret
    exact ⟨rfl, rfl⟩
  · have h1 : 1 ≤ b := by omega
    rw [if_neg h]
    clear h
    go_enter Try.func24, Try.ntmps24
    go_wp2_with fail
    refine (divide_any a b _ ha0 ha (by omega) hb).mono ?_
    rintro e w' ⟨rfl, rfl⟩
    go_wp2
    go_ret
    exact ⟨rfl, rfl⟩

theorem size_pos (b : Int) (hb0 : 0 ≤ b) (hb : b < 18446744073709551616) (h : 1 ≤ b) : 1 ≤ sizeI b := by
  unfold sizeI; split <;> omega
/-- Quotients with signs, by sizes. -/
theorem div_ref (a b : Int) (ha0 : 0 ≤ a) (ha : a < 18446744073709551616) (hb0 : 0 ≤ b) (hb : b < 18446744073709551616) (h1 : 1 ≤ b) :
    IntKind.u64.wrap (wrap64 ((wrap64 a).tdiv (wrap64 b))) = if isNeg a != isNeg b then IntKind.u64.wrap (-(sizeI a / sizeI b)) else sizeI a / sizeI b := by
  have hw := size_wrap a ha0 ha
  have hv := size_wrap b hb0 hb
  have hp := size_pos b hb0 hb h1
  have hq := quo_le (sizeI a) (sizeI b) hw.1 (by omega)
  rw [hw.2.2.1, hv.2.2.1]
  have e : (sizeI a).tdiv (sizeI b) = sizeI a / sizeI b := Int.tdiv_eq_ediv_of_nonneg hw.1
  have h2 : sizeI a ≤ 9223372036854775808 := by
    have hi := isNeg_iff a ha0 ha
    unfold sizeI; split
    · rename_i h; have := hi.1 h; omega
    · rename_i h; rw [hi] at h; omega
  cases isNeg a <;> cases isNeg b <;> simp [Int.neg_tdiv, Int.tdiv_neg, e, IntKind.wrap_u64] <;> unfold wrap64 <;> omega
theorem rem_ref (a b : Int) (ha0 : 0 ≤ a) (ha : a < 18446744073709551616) (hb0 : 0 ≤ b) (hb : b < 18446744073709551616) (h1 : 1 ≤ b) :
    IntKind.u64.wrap ((wrap64 a).tmod (wrap64 b)) = if isNeg a then IntKind.u64.wrap (-(sizeI a % sizeI b)) else sizeI a % sizeI b := by
  have hw := size_wrap a ha0 ha
  have hv := size_wrap b hb0 hb
  have hp := size_pos b hb0 hb h1
  have hr0 := Int.emod_nonneg (sizeI a) (show sizeI b ≠ 0 by omega)
  have hr1 := Int.emod_lt_of_pos (sizeI a) (show 0 < sizeI b by omega)
  rw [hw.2.2.1, hv.2.2.1]
  have e : (sizeI a).tmod (sizeI b) = sizeI a % sizeI b := Int.tmod_eq_emod_of_nonneg hw.1
  cases isNeg a <;> cases isNeg b <;> simp [Int.neg_tmod, Int.tmod_neg, e, IntKind.wrap_u64] <;> omega

set_option maxHeartbeats 400000 in
theorem refDiv_any (a b : Int) (w : World) (ha0 : 0 ≤ a) (ha : a < 18446744073709551616) (hb0 : 0 ≤ b) (hb : b < 18446744073709551616) :
    Calls Try.prog 26 #[.int .u64 a, .int .u64 b] w fun e w' => e = .returned (.int .u64 (divI a b)) ∧ w = w' := by
  unfold divI
  by_cases h : b = 0
  · subst h
    go_enter Try.func26, Try.ntmps26
    go_wp2
    go_ret
    exact ⟨rfl, rfl⟩
  · have h1 : 1 ≤ b := by omega
    rw [if_neg h, div_ref a b ha0 ha hb0 hb h1]
    clear h
    have hs := size_bd a ha0 ha
    have ht := size_bd b hb0 hb
    have hp := size_pos b hb0 hb h1
    cases hna : isNeg a <;> cases hnb : isNeg b
    all_goals
      first | rw [if_pos (by decide)] | rw [if_neg (by decide)]
      have HA := Lib.hid hna; clear hna
      have HB := Lib.hid hnb; clear hnb
      go_enter Try.func26, Try.ntmps26
      go_wp2_with fail
      refine (size_any a _ ha0 ha).mono ?_
      rintro e w' ⟨rfl, rfl⟩
      go_wp2_with fail
      refine (size_any b _ hb0 hb).mono ?_
      rintro e w' ⟨rfl, rfl⟩
      go_wp2_with fail
      refine (divide_any _ _ _ hs.1 hs.2 (by omega) ht.2).mono ?_
      rintro e w' ⟨rfl, rfl⟩
      go_wp2_with fail
      refine (minus_any a _ ha0).mono ?_
      rintro e w' ⟨rfl, rfl⟩
      rw [HA.out]
      go_wp2_with fail
      refine (minus_any b _ hb0).mono ?_
      rintro e w' ⟨rfl, rfl⟩
      rw [HB.out]
      go_wp2
      go_ret
      exact ⟨rfl, rfl⟩
set_option maxHeartbeats 400000 in
theorem refRem_any (a b : Int) (w : World) (ha0 : 0 ≤ a) (ha : a < 18446744073709551616) (hb0 : 0 ≤ b) (hb : b < 18446744073709551616) :
    Calls Try.prog 28 #[.int .u64 a, .int .u64 b] w fun e w' => e = .returned (.int .u64 (remI a b)) ∧ w = w' := by
  unfold remI
  by_cases h : b = 0
  · subst h
    go_enter Try.func28, Try.ntmps28
    go_wp2
    go_ret
    exact ⟨rfl, rfl⟩
  · have h1 : 1 ≤ b := by omega
    rw [if_neg h, rem_ref a b ha0 ha hb0 hb h1]
    clear h
    have hs := size_bd a ha0 ha
    have ht := size_bd b hb0 hb
    have hp := size_pos b hb0 hb h1
    cases hn : isNeg a
    all_goals
      have HN := Lib.hid hn; clear hn
      go_enter Try.func28, Try.ntmps28
      go_wp2_with fail
      refine (size_any a _ ha0 ha).mono ?_
      rintro e w' ⟨rfl, rfl⟩
      go_wp2_with fail
      refine (size_any b _ hb0 hb).mono ?_
      rintro e w' ⟨rfl, rfl⟩
      go_wp2_with fail
      refine (divide_any _ _ _ hs.1 hs.2 (by omega) ht.2).mono ?_
      rintro e w' ⟨rfl, rfl⟩
      go_wp2_with fail
      refine (minus_any a _ ha0).mono ?_
      rintro e w' ⟨rfl, rfl⟩
      rw [HN.out]
      go_wp2
      go_ret
      exact ⟨rfl, rfl⟩

set_option maxHeartbeats 400000 in
theorem answers_any (w : World) : Calls Try.prog 11 #[] w fun e w' => e = .returned (.bool true) ∧ w = w' := by
  have e1 : sextI 255 8 = 18446744073709551615 := by decide
  have e2 : divI 7 2 = 3 := by
    unfold divI; rw [if_neg (by decide), IntWalk.wrap64_in 7 (by omega), IntWalk.wrap64_in 2 (by omega), show (Int.tdiv 7 2) = 3 from rfl, IntWalk.wrap64_in 3 (by omega)]; rfl
  have H1 := Lib.hid e1; clear e1
  have H2 := Lib.hid e2; clear e2
  go_enter Try.func11, Try.ntmps11
  go_wp2_with fail
  refine (sext_any _ _ _).mono ?_
  rintro e w' ⟨rfl, rfl⟩
  rw [H1.out]
  go_wp2_with fail
  refine (div_any _ _ _ (by omega) (by omega)).mono ?_
  rintro e w' ⟨rfl, rfl⟩
  rw [H2.out]
  go_wp2
  go_ret
  exact ⟨rfl, rfl⟩

/-- Is n a number of b bits with a sign? -/
def fitsI (n b : Int) : Bool := if 1 ≤ b ∧ b ≤ 63 then (decide (-(2 ^ (b.toNat - 1)) ≤ n) && decide (n ≤ 2 ^ (b.toNat - 1) - 1)) else true
theorem pow_le62 (k : Nat) (h : k ≤ 62) : (2 : Int) ^ k ≤ 4611686018427387904 := by
  have := (low_mono (k + 1) 63 (by omega) (by omega)).1
  simpa using this
theorem fits_no (n p : Int) (h : ¬ -p ≤ n) : false = (decide (-p ≤ n) && decide (n ≤ p - 1)) := by rw [decide_eq_false h]; rfl
theorem fits_yes (n p : Int) (h : -p ≤ n) : decide (n ≤ p - 1) = (decide (-p ≤ n) && decide (n ≤ p - 1)) := by rw [decide_eq_true h]; rfl
theorem pow_le61 (k : Nat) (h : k ≤ 61) : (2 : Int) ^ k ≤ 2305843009213693952 := by
  have := (low_mono (k + 1) 62 (by omega) (by omega)).1
  simpa using this
set_option maxHeartbeats 400000 in
theorem fits_any (n b : Int) (w : World) :
    Calls Try.prog 13 #[.int .i64 n, .int .i64 b] w fun e w' => e = .returned (.bool (fitsI n b)) ∧ w = w' := by
  by_cases hb : 1 ≤ b ∧ b ≤ 63
  · obtain ⟨h1, h2⟩ := hb
    obtain ⟨k, rfl⟩ := Int.eq_ofNat_of_zero_le (show 0 ≤ b by omega)
    have hp := pow_le62 (k - 1) (by omega)
    have hq := pow_pos' (k - 1)
    have fin : fitsI n k = (decide (-(2 ^ (k - 1)) ≤ n) && decide (n ≤ 2 ^ (k - 1) - 1)) := by unfold fitsI; rw [if_pos ⟨h1, h2⟩]; rfl
    rw [fin]; clear fin
    by_cases hl : -(2 ^ (k - 1)) ≤ n
    · go_enter Try.func13, Try.ntmps13
      go_wp2
      go_ret
      exact ⟨ret_bool (fits_yes _ _ (by omega)), rfl⟩
    · go_enter Try.func13, Try.ntmps13
      go_wp2
      go_ret
      exact ⟨ret_bool (fits_no _ _ (by omega)), rfl⟩
  · have fin : fitsI n b = true := by unfold fitsI; rw [if_neg hb]
    rw [fin]; clear fin
    by_cases h1 : b < 1
    · go_enter Try.func13, Try.ntmps13
      go_wp2
      go_ret
      exact ⟨rfl, rfl⟩
    · have h2 : 64 ≤ b := by omega
      clear hb
      go_enter Try.func13, Try.ntmps13
      go_wp2
      go_ret
      exact ⟨rfl, rfl⟩

set_option maxHeartbeats 1000000 in
theorem refFits_any (n b : Int) (w : World) :
    Calls Try.prog 14 #[.int .i64 n, .int .i64 b] w fun e w' => e = .returned (.bool (fitsI n b)) ∧ w = w' := by
  by_cases hb : 1 ≤ b ∧ b ≤ 63
  · obtain ⟨h1, h2⟩ := hb
    obtain ⟨k, rfl⟩ := Int.eq_ofNat_of_zero_le (show 0 ≤ b by omega)
    have fin : fitsI n k = (decide (-(2 ^ (k - 1)) ≤ n) && decide (n ≤ 2 ^ (k - 1) - 1)) := by unfold fitsI; rw [if_pos ⟨h1, h2⟩]; rfl
    rw [fin]; clear fin
    go_enter Try.func14, Try.ntmps14
    go_wp2
    go_loop [5, 6] (fun h i => ∃ j : Nat, 1 ≤ j ∧ j ≤ k ∧ i = .int .i64 j ∧ h = .int .i64 (2 ^ (j - 1))) (fun _ i => k - (intOf i).toNat)
    case atStart => exact ⟨1, by omega, by omega, rfl, rfl⟩
    case round =>
      obtain ⟨j, hj1, hj2, rfl, rfl⟩ := hrel
      have hp := pow_le62 (j - 1) (by omega)
      have hq := pow_pos' (j - 1)
      by_cases hlt : j < k
      · have hn := Lib.hid (pow_half j hj1)
        have hp2 := pow_le61 (j - 1) (by omega)
        go_wp2
        go_round
        case rel => exact ⟨j + 1, by omega, by omega, by go_num, by rw [show j + 1 - 1 = j by omega, hn.out, Int.mul_comm]⟩
        case measure => simp [intOf]; omega
      · obtain rfl : j = k := by omega
        by_cases hl : -(2 ^ (j - 1)) ≤ n
        · go_wp2
          go_ret
          exact ⟨rfl, rfl⟩
        · go_wp2
          go_ret
          exact ⟨ret_bool (fits_no _ _ (by omega)), rfl⟩
  · have fin : fitsI n b = true := by unfold fitsI; rw [if_neg hb]
    rw [fin]; clear fin
    by_cases h1 : b < 1
    · go_enter Try.func14, Try.ntmps14
      go_wp2
      go_ret
      exact ⟨rfl, rfl⟩
    · have h2 : 63 < b := by omega
      clear hb
      go_enter Try.func14, Try.ntmps14
      go_wp2
      go_ret
      exact ⟨rfl, rfl⟩
end Go.Proofs.Ytbehnnnhnpjjdaa
