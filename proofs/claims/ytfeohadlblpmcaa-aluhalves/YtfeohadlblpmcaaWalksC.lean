/-
  Contracts of the functions on quotients, remainders and ranges, of the program and of the reference.
-/
import Derived.Test.YtfeohadlblpmcaaWalksB
namespace Go.Proofs.Ytfeohadlblpmcaa
open Go.RowKit

def divuI (a b : Int) : Int := if b = 0 then 18446744073709551615 else a / b
def remuI (a b : Int) : Int := if b = 0 then a else a % b
def divI (a b : Int) : Int := if b = 0 then 18446744073709551615 else IntKind.u64.wrap (wrap64 ((wrap64 a).tdiv (wrap64 b)))
def remI (a b : Int) : Int := if b = 0 then a else IntKind.u64.wrap ((wrap64 a).tmod (wrap64 b))

theorem wrap_ne (b : Int) (hb0 : 0 ≤ b) (hb : b < 18446744073709551616) (h : ¬ b = 0) : ¬ wrap64 b = 0 := by unfold wrap64; omega

set_option maxHeartbeats 400000 in
theorem divu_any (a b : Int) (w : World) (ha0 : 0 ≤ a) (ha : a < 18446744073709551616) (hb0 : 0 ≤ b) :
    Calls Try.prog 32 #[.int .u64 a, .int .u64 b] w fun e w' => e = .returned (.int .u64 (divuI a b)) ∧ w = w' := by
  unfold divuI
  by_cases h : b = 0
  · subst h
    go_enter Try.func32, Try.ntmps32
    go_wp2
    go_ret
    exact ⟨rfl, rfl⟩
  · have h1 : 1 ≤ b := by omega
    rw [if_neg h]
    clear h
    go_enter Try.func32, Try.ntmps32
    go_wp2
    go_ret
    exact ⟨rfl, rfl⟩
set_option maxHeartbeats 400000 in
theorem remu_any (a b : Int) (w : World) (ha0 : 0 ≤ a) (ha : a < 18446744073709551616) (hb0 : 0 ≤ b) :
    Calls Try.prog 34 #[.int .u64 a, .int .u64 b] w fun e w' => e = .returned (.int .u64 (remuI a b)) ∧ w = w' := by
  unfold remuI
  by_cases h : b = 0
  · subst h
    go_enter Try.func34, Try.ntmps34
    go_wp2
    go_ret
    exact ⟨rfl, rfl⟩
  · have h1 : 1 ≤ b := by omega
    rw [if_neg h]
    clear h
    go_enter Try.func34, Try.ntmps34
    go_wp2
    go_ret
    exact ⟨rfl, rfl⟩
set_option maxHeartbeats 400000 in
theorem div_any (a b : Int) (w : World) (hb0 : 0 ≤ b) (hb : b < 18446744073709551616) :
    Calls Try.prog 31 #[.int .u64 a, .int .u64 b] w fun e w' => e = .returned (.int .u64 (divI a b)) ∧ w = w' := by
  unfold divI
  by_cases h : b = 0
  · subst h
    go_enter Try.func31, Try.ntmps31
    go_wp2
    go_ret
    exact ⟨rfl, rfl⟩
  · have h1 : 1 ≤ b := by omega
    have h2 := wrap_ne b hb0 hb h
    rw [if_neg h]
    clear h
    go_enter Try.func31, Try.ntmps31
    go_wp2
    go_ret
    exact ⟨rfl, rfl⟩
set_option maxHeartbeats 400000 in
theorem rem_any (a b : Int) (w : World) (hb0 : 0 ≤ b) (hb : b < 18446744073709551616) :
    Calls Try.prog 33 #[.int .u64 a, .int .u64 b] w fun e w' => e = .returned (.int .u64 (remI a b)) ∧ w = w' := by
  unfold remI
  by_cases h : b = 0
  · subst h
    go_enter Try.func33, Try.ntmps33
    go_wp2
    go_ret
    exact ⟨rfl, rfl⟩
  · have h1 : 1 ≤ b := by omega
    have h2 := wrap_ne b hb0 hb h
    rw [if_neg h]
    clear h
    go_enter Try.func33, Try.ntmps33
    go_wp2
    go_ret
    exact ⟨rfl, rfl⟩
set_option maxHeartbeats 400000 in
theorem refDivu_any (a b : Int) (w : World) (ha0 : 0 ≤ a) (ha : a < 18446744073709551616) (hb0 : 0 ≤ b) (hb : b < 18446744073709551616) :
    Calls Try.prog 44 #[.int .u64 a, .int .u64 b] w fun e w' => e = .returned (.int .u64 (divuI a b)) ∧ w = w' := by
  unfold divuI
  by_cases h : b = 0
  · subst h
    go_enter Try.func44, Try.ntmps44
    go_wp2
    go_ret
    exact ⟨rfl, rfl⟩
  · have h1 : 1 ≤ b := by omega
    rw [if_neg h]
    clear h
    go_enter Try.func44, Try.ntmps44
    go_wp2_with fail
    refine (divide_any a b _ ha0 ha (by omega) hb).mono ?_
    rintro e w' ⟨rfl, rfl⟩
    go_wp2
    go_ret
    exact ⟨rfl, rfl⟩
set_option maxHeartbeats 400000 in
theorem refRemu_any (a b : Int) (w : World) (ha0 : 0 ≤ a) (ha : a < 18446744073709551616) (hb0 : 0 ≤ b) (hb : b < 18446744073709551616) :
    Calls Try.prog 46 #[.int .u64 a, .int .u64 b] w fun e w' => e = .returned (.int .u64 (remuI a b)) ∧ w = w' := by
  unfold remuI
  by_cases h : b = 0
  · subst h
    go_enter Try.func46, Try.ntmps46
    go_wp2
    go_ret
    exact ⟨rfl, rfl⟩
  · have h1 : 1 ≤ b := by omega
    rw [if_neg h]
    clear h
    go_enter Try.func46, Try.ntmps46
    go_wp2_with fail
    refine (divide_any a b _ ha0 ha (by omega) hb).mono ?_
    rintro e w' ⟨rfl, rfl⟩
    go_wp2
    go_ret
    exact ⟨rfl, rfl⟩

theorem size_pos (b : Int) (hb0 : 0 ≤ b) (hb : b < 18446744073709551616) (h : 1 ≤ b) : 1 ≤ sizeI b := by
  unfold sizeI; split <;> omega
/-- Quotients with signs, by sizes. -/
theorem div_ref (a b : Int) (ha0 : 0 ≤ a) (ha : a < 18446744073709551616) (hb0 : 0 ≤ b) (hb : b < 18446744073709551616) (h1 : 1 ≤ b) :
    IntKind.u64.wrap (wrap64 ((wrap64 a).tdiv (wrap64 b))) = if isNeg a != isNeg b then IntKind.u64.wrap (-(sizeI a / sizeI b)) else sizeI a / sizeI b := by
  have hw := size_wrap a ha0 ha
  have hv := size_wrap b hb0 hb
  have hp := size_pos b hb0 hb h1
  have hq := quo_le (sizeI a) (sizeI b) hw.1 (by omega)
  rw [hw.2.2.1, hv.2.2.1]
  have e : (sizeI a).tdiv (sizeI b) = sizeI a / sizeI b := Int.tdiv_eq_ediv_of_nonneg hw.1
  have h2 : sizeI a ≤ 9223372036854775808 := by
    have hi := isNeg_iff a ha0 ha
    unfold sizeI; split
    · rename_i h; have := hi.1 h; omega
    · rename_i h; rw [hi] at h; omega
  cases isNeg a <;> cases isNeg b <;> simp [Int.neg_tdiv, Int.tdiv_neg, e, IntKind.wrap_u64] <;> unfold wrap64 <;> omega
theorem rem_ref (a b : Int) (ha0 : 0 ≤ a) (ha : a < 18446744073709551616) (hb0 : 0 ≤ b) (hb : b < 18446744073709551616) (h1 : 1 ≤ b) :
    IntKind.u64.wrap ((wrap64 a).tmod (wrap64 b)) = if isNeg a then IntKind.u64.wrap (-(sizeI a % sizeI b)) else sizeI a % sizeI b := by
  have hw := size_wrap a ha0 ha
  have hv := size_wrap b hb0 hb
  have hp := size_pos b hb0 hb h1
  have hr0 := Int.emod_nonneg (sizeI a) (show sizeI b ≠ 0 by omega)
  have hr1 := Int.emod_lt_of_pos (sizeI a) (show 0 < sizeI b by omega)
  rw [hw.2.2.1, hv.2.2.1]
  have e : (sizeI a).tmod (sizeI b) = sizeI a % sizeI b := Int.tmod_eq_emod_of_nonneg hw.1
  cases isNeg a <;> cases isNeg b <;> simp [Int.neg_tmod, Int.tmod_neg, e, IntKind.wrap_u64] <;> omega

set_option maxHeartbeats 400000 in
theorem refDiv_any (a b : Int) (w : World) (ha0 : 0 ≤ a) (ha : a < 18446744073709551616) (hb0 : 0 ≤ b) (hb : b < 18446744073709551616) :
    Calls Try.prog 43 #[.int .u64 a, .int .u64 b] w fun e w' => e = .returned (.int .u64 (divI a b)) ∧ w = w' := by
  unfold divI
  by_cases h : b = 0
  · subst h
    go_enter Try.func43, Try.ntmps43
    go_wp2
    go_ret
    exact ⟨rfl, rfl⟩
  · have h1 : 1 ≤ b := by omega
    rw [if_neg h, div_ref a b ha0 ha hb0 hb h1]
    clear h
    have hs := size_bd a ha0 ha
    have ht := size_bd b hb0 hb
    have hp := size_pos b hb0 hb h1
    cases hna : isNeg a <;> cases hnb : isNeg b
    all_goals
      first | rw [if_pos (by decide)] | rw [if_neg (by decide)]
      have HA := Lib.hid hna; clear hna
      have HB := Lib.hid hnb; clear hnb
      go_enter Try.func43, Try.ntmps43
      go_wp2_with fail
      refine (size_any a _ ha0 ha).mono ?_
      rintro e w' ⟨rfl, rfl⟩
      go_wp2_with fail
      refine (size_any b _ hb0 hb).mono ?_
      rintro e w' ⟨rfl, rfl⟩
      go_wp2_with fail
      refine (divide_any _ _ _ hs.1 hs.2 (by omega) ht.2).mono ?_
      rintro e w' ⟨rfl, rfl⟩
      go_wp2_with fail
      refine (minus_any a _ ha0).mono ?_
      rintro e w' ⟨rfl, rfl⟩
      rw [HA.out]
      go_wp2_with fail
      refine (minus_any b _ hb0).mono ?_
      rintro e w' ⟨rfl, rfl⟩
      rw [HB.out]
      go_wp2
      go_ret
      exact ⟨rfl, rfl⟩
set_option maxHeartbeats 400000 in
theorem refRem_any (a b : Int) (w : World) (ha0 : 0 ≤ a) (ha : a < 18446744073709551616) (hb0 : 0 ≤ b) (hb : b < 18446744073709551616) :
    Calls Try.prog 45 #[.int .u64 a, .int .u64 b] w fun e w' => e = .returned (.int .u64 (remI a b)) ∧ w = w' := by
  unfold remI
  by_cases h : b = 0
  · subst h
    go_enter Try.func45, Try.ntmps45
    go_wp2
    go_ret
    exact ⟨rfl, rfl⟩
  · have h1 : 1 ≤ b := by omega
    rw [if_neg h, rem_ref a b ha0 ha hb0 hb h1]
    clear h
    have hs := size_bd a ha0 ha
    have ht := size_bd b hb0 hb
    have hp := size_pos b hb0 hb h1
    cases hn : isNeg a
    all_goals
      have HN := Lib.hid hn; clear hn
      go_enter Try.func45, Try.ntmps45
      go_wp2_with fail
      refine (size_any a _ ha0 ha).mono ?_
      rintro e w' ⟨rfl, rfl⟩
      go_wp2_with fail
      refine (size_any b _ hb0 hb).mono ?_
      rintro e w' ⟨rfl, rfl⟩
      go_wp2_with fail
      refine (divide_any _ _ _ hs.1 hs.2 (by omega) ht.2).mono ?_
      rintro e w' ⟨rfl, rfl⟩
      go_wp2_with fail
      refine (minus_any a _ ha0).mono ?_
      rintro e w' ⟨rfl, rfl⟩
      rw [HN.out]
      go_wp2
      go_ret
      exact ⟨rfl, rfl⟩
end Go.Proofs.Ytfeohadlblpmcaa
