/-
  Contracts of the functions on products, quotients and ranges, of the program and of the reference.
-/
import Derived.Test.YtfeohadlblpmcaaWalks
import Derived.Test.YtfeohadlblpmcaaMathB
namespace Go.Proofs.Ytfeohadlblpmcaa
open Go.RowKit

theorem ret_pair {k : IntKind} {a b c d : Int} (h : a = b) (h' : c = d) : Ending.returned (.tuple #[.int k a, .int k c]) = .returned (.tuple #[.int k b, .int k d]) := by rw [h, h']

set_option maxHeartbeats 400000 in
theorem minus_any (x : Int) (w : World) (hx0 : 0 ≤ x) :
    Calls Try.prog 38 #[.int .u64 x] w fun e w' => e = .returned (.bool (isNeg x)) ∧ w = w' := by
  go_enter Try.func38, Try.ntmps38
  go_wp2_with fail
  refine (bit_any _ _ _ hx0 (by omega) (by omega)).mono ?_
  rintro e w' ⟨rfl, rfl⟩
  rw [show (63 : Int).toNat = 63 from rfl]
  go_wp2
  go_ret
  exact ⟨rfl, rfl⟩

set_option maxHeartbeats 1000000 in
theorem divide_any (a b : Int) (w : World) (ha0 : 0 ≤ a) (ha : a < 18446744073709551616) (hb0 : 0 < b) (hb : b < 18446744073709551616) :
    Calls Try.prog 52 #[.int .u64 a, .int .u64 b] w fun e w' => e = .returned (.tuple #[.int .u64 (a / b), .int .u64 (a % b)]) ∧ w = w' := by
  have st : a / 2 ^ 64 = 0 := Int.ediv_eq_zero_of_lt ha0 ha
  have ST := Lib.hid st; clear st
  go_enter Try.func52, Try.ntmps52
  go_wp2
  go_loop [6, 7, 8] (fun q r i => ∃ k : Nat, k ≤ 64 ∧ i = .int .i64 (63 - k) ∧ q = .int .u64 (a / 2 ^ (64 - k) / b) ∧ r = .int .u64 (a / 2 ^ (64 - k) % b)) (fun _ _ i => (intOf i + 1).toNat)
  case atStart => exact ⟨0, by omega, rfl, by rw [ST.out, Int.zero_ediv], by rw [ST.out, Int.zero_emod]⟩
  case round =>
    obtain ⟨k, hk, rfl, rfl, rfl⟩ := hrel
    have hr0 : 0 ≤ a / 2 ^ (64 - k) % b := Int.emod_nonneg _ (by omega)
    have hr1 : a / 2 ^ (64 - k) % b < b := Int.emod_lt_of_pos _ (by omega)
    have hq0 : 0 ≤ a / 2 ^ (64 - k) / b := Int.ediv_nonneg (Int.ediv_nonneg ha0 (Int.le_of_lt (pow_pos' _))) (by omega)
    by_cases hlt : k < 64
    · generalize hq : a / 2 ^ (64 - k) / b = q at *
      generalize hr : a / 2 ^ (64 - k) % b = r at *
      generalize hcc : a / 2 ^ (64 - (k + 1)) % 2 = c
      have HQ := Lib.hid hq; clear hq
      have HR := Lib.hid hr; clear hr
      have HC := Lib.hid hcc; clear hcc
      have ht : (63 - (k : Int)).toNat = 64 - (k + 1) := by omega
      have HT := Lib.hid ht; clear ht
      go_wp2_with fail
      refine (minus_any _ _ (by omega)).mono ?_
      rintro e w' ⟨rfl, rfl⟩
      go_wp2_with fail
      refine (bit_any _ _ _ ha0 (by omega) (by omega)).mono ?_
      rintro e w' ⟨rfl, rfl⟩
      rw [HT.out, HC.out]
      go_wp2
      · go_round
        case rel =>
          have hd := div_yes a b q r c k hlt ha0 ha hb0 hb HQ.out HR.out HC.out (Or.inl (by assumption))
          exact ⟨k + 1, by omega, by go_num, by rw [hd.1], by rw [hd.2]⟩
        case measure => simp [intOf]; omega
      · go_round
        case rel =>
          have hd := div_yes a b q r c k hlt ha0 ha hb0 hb HQ.out HR.out HC.out (Or.inr (by assumption))
          exact ⟨k + 1, by omega, by go_num, by rw [hd.1], by rw [hd.2]⟩
        case measure => simp [intOf]; omega
      · go_round
        case rel =>
          have hd := div_no a b q r c k hlt ha0 ha hb0 hb HQ.out HR.out HC.out (by assumption) (by assumption)
          exact ⟨k + 1, by omega, by go_num, by rw [hd.1], by rw [hd.2]⟩
        case measure => simp [intOf]; omega
    · obtain rfl : k = 64 := by omega
      go_wp2
      go_ret2
      exact ⟨ret_pair (by simp) (by simp), rfl⟩

set_option maxHeartbeats 400000 in
theorem mul64_any (a b : Int) (w : World) (ha0 : 0 ≤ a) (ha : a < 18446744073709551616) (hb0 : 0 ≤ b) (hb : b < 18446744073709551616) :
    Calls Try.prog 48 #[.int .u64 a, .int .u64 b] w fun e w' => e = .returned (.tuple #[.int .u64 (a * b / 18446744073709551616), .int .u64 (a * b % 18446744073709551616)]) ∧ w = w' := by
  go_enter Try.func48, Try.ntmps48
  go_wp2
  go_ret2
  exact ⟨ret_pair (mulhi a b ha0 ha hb0 hb) (IntKind.wrap_u64 _), rfl⟩

theorem or32 (x y : Int) (hy0 : 0 ≤ y) (hy : y < 4294967296) : bits .or .u64 (IntKind.u64.wrap (x * 4294967296)) y = x * 4294967296 % 18446744073709551616 + y := by
  rw [IntKind.wrap_u64]
  obtain ⟨A, hA⟩ := Int.eq_ofNat_of_zero_le (show 0 ≤ x * 4294967296 % 18446744073709551616 by omega)
  obtain ⟨C, rfl⟩ := Int.eq_ofNat_of_zero_le hy0
  have h2 : A % 4294967296 = 0 := by omega
  rw [hA, u64_or_nat A C (by omega) (by omega), nat_join 32 A C (by simpa using h2) (by simp; omega), Int.natCast_add]

set_option maxHeartbeats 400000 in
theorem product_any (a b : Int) (w : World) (ha0 : 0 ≤ a) (ha : a < 18446744073709551616) (hb0 : 0 ≤ b) (hb : b < 18446744073709551616) :
    Calls Try.prog 39 #[.int .u64 a, .int .u64 b] w fun e w' => e = .returned (.tuple #[.int .u64 (a * b / 18446744073709551616), .int .u64 (a * b % 18446744073709551616)]) ∧ w = w' := by
  go_enter Try.func39, Try.ntmps39
  go_wp2
  go_ret2
  have hp := mul_parts a b
  have b1 := mul_bd (a / 4294967296) (b / 4294967296) (by omega) (by omega) (by omega) (by omega)
  have b2 := mul_bd (a / 4294967296) (b % 4294967296) (by omega) (by omega) (by omega) (by omega)
  have b3 := mul_bd (a % 4294967296) (b / 4294967296) (by omega) (by omega) (by omega) (by omega)
  have b4 := mul_bd (a % 4294967296) (b % 4294967296) (by omega) (by omega) (by omega) (by omega)
  refine ⟨ret_pair ?_ ?_, rfl⟩
  · rw [and32 a ha0 ha, and32 b hb0 hb, hp]
    generalize a / 4294967296 * (b / 4294967296) = s at *
    generalize a / 4294967296 * (b % 4294967296) = q at *
    generalize a % 4294967296 * (b / 4294967296) = r at *
    generalize a % 4294967296 * (b % 4294967296) = p at *
    have e1 : IntKind.u64.wrap s = s := IntWalk.u64_in _ (by omega)
    have e2 : IntKind.u64.wrap q = q := IntWalk.u64_in _ (by omega)
    have e3 : IntKind.u64.wrap r = r := IntWalk.u64_in _ (by omega)
    have e4 : IntKind.u64.wrap p = p := IntWalk.u64_in _ (by omega)
    rw [e1, e2, e3, e4, and32 q (by omega) (by omega), and32 r (by omega) (by omega)]
    simp only [IntKind.wrap_u64]
    omega
  · rw [and32 a ha0 ha, and32 b hb0 hb, hp]
    generalize a / 4294967296 * (b / 4294967296) = s at *
    generalize a / 4294967296 * (b % 4294967296) = q at *
    generalize a % 4294967296 * (b / 4294967296) = r at *
    generalize a % 4294967296 * (b % 4294967296) = p at *
    have e2 : IntKind.u64.wrap q = q := IntWalk.u64_in _ (by omega)
    have e3 : IntKind.u64.wrap r = r := IntWalk.u64_in _ (by omega)
    have e4 : IntKind.u64.wrap p = p := IntWalk.u64_in _ (by omega)
    rw [e2, e3, e4, and32 q (by omega) (by omega), and32 r (by omega) (by omega), and32 p (by omega) (by omega)]
    have e5 : IntKind.u64.wrap (p / 4294967296 + q % 4294967296) = p / 4294967296 + q % 4294967296 := IntWalk.u64_in _ (by omega)
    rw [e5]
    have e6 : IntKind.u64.wrap (p / 4294967296 + q % 4294967296 + r % 4294967296) = p / 4294967296 + q % 4294967296 + r % 4294967296 := IntWalk.u64_in _ (by omega)
    rw [e6, or32 _ _ (by omega) (by omega)]
    omega

set_option maxHeartbeats 400000 in
theorem mulhu_any (a b : Int) (w : World) (ha0 : 0 ≤ a) (ha : a < 18446744073709551616) (hb0 : 0 ≤ b) (hb : b < 18446744073709551616) :
    Calls Try.prog 30 #[.int .u64 a, .int .u64 b] w fun e w' => e = .returned (.int .u64 (a * b / 18446744073709551616)) ∧ w = w' := by
  go_enter Try.func30, Try.ntmps30
  go_wp2_with fail
  refine (mul64_any a b _ ha0 ha hb0 hb).mono ?_
  rintro e w' ⟨rfl, rfl⟩
  go_wp2
  go_ret
  exact ⟨rfl, rfl⟩

set_option maxHeartbeats 400000 in
theorem refMulhu_any (a b : Int) (w : World) (ha0 : 0 ≤ a) (ha : a < 18446744073709551616) (hb0 : 0 ≤ b) (hb : b < 18446744073709551616) :
    Calls Try.prog 42 #[.int .u64 a, .int .u64 b] w fun e w' => e = .returned (.int .u64 (a * b / 18446744073709551616)) ∧ w = w' := by
  go_enter Try.func42, Try.ntmps42
  go_wp2_with fail
  refine (product_any a b _ ha0 ha hb0 hb).mono ?_
  rintro e w' ⟨rfl, rfl⟩
  go_wp2
  go_ret
  exact ⟨rfl, rfl⟩

set_option maxHeartbeats 400000 in
theorem excess_any (a b : Int) (w : World) (ha0 : 0 ≤ a) (ha : a < 18446744073709551616) :
    Calls Try.prog 47 #[.int .u64 a, .int .u64 b] w fun e w' => e = .returned (.int .u64 (excessI a b)) ∧ w = w' := by
  have hn := isNeg_wrap a ha0 ha
  unfold excessI
  cases hi : isNeg a
  · have hw : ¬ wrap64 a < 0 := fun h => by rw [hn.2 h] at hi; cases hi
    clear hn hi
    go_enter Try.func47, Try.ntmps47
    go_wp2
    go_ret
    exact ⟨rfl, rfl⟩
  · have hw : wrap64 a < 0 := hn.1 hi
    clear hn hi
    go_enter Try.func47, Try.ntmps47
    go_wp2
    go_ret
    exact ⟨rfl, rfl⟩

set_option maxHeartbeats 400000 in
theorem mulhsu_any (a b : Int) (w : World) (ha0 : 0 ≤ a) (ha : a < 18446744073709551616) (hb0 : 0 ≤ b) (hb : b < 18446744073709551616) :
    Calls Try.prog 29 #[.int .u64 a, .int .u64 b] w fun e w' => e = .returned (.int .u64 (mulhsuI a b)) ∧ w = w' := by
  have fin := Lib.hid (mulhsu_word a b ha0 ha)
  have hm := mulhi' a b ha0 ha hb0 hb
  go_enter Try.func29, Try.ntmps29
  go_wp2_with fail
  refine (mulhu_any a b _ ha0 ha hb0 hb).mono ?_
  rintro e w' ⟨rfl, rfl⟩
  generalize a * b / 18446744073709551616 = h at *
  go_wp2_with fail
  refine (excess_any a b _ ha0 ha).mono ?_
  rintro e w' ⟨rfl, rfl⟩
  go_wp2
  go_ret
  exact ⟨ret_int fin.out, rfl⟩

theorem mulhsu_bd (a b : Int) : 0 ≤ mulhsuI a b ∧ mulhsuI a b < 18446744073709551616 := by unfold mulhsuI; omega
theorem mulh_bd (a b : Int) : 0 ≤ mulhI a b ∧ mulhI a b < 18446744073709551616 := by unfold mulhI; omega
theorem mulhu_bd (a b : Int) (ha0 : 0 ≤ a) (ha : a < 18446744073709551616) (hb0 : 0 ≤ b) (hb : b < 18446744073709551616) : 0 ≤ a * b / 18446744073709551616 ∧ a * b / 18446744073709551616 < 18446744073709551616 := by
  have := mulhi' a b ha0 ha hb0 hb; omega

set_option maxHeartbeats 400000 in
theorem mulh_any (a b : Int) (w : World) (ha0 : 0 ≤ a) (ha : a < 18446744073709551616) (hb0 : 0 ≤ b) (hb : b < 18446744073709551616) :
    Calls Try.prog 28 #[.int .u64 a, .int .u64 b] w fun e w' => e = .returned (.int .u64 (mulhI a b)) ∧ w = w' := by
  have fin := Lib.hid (mulh_word a b ha0 ha hb0 hb)
  go_enter Try.func28, Try.ntmps28
  go_wp2_with fail
  refine (mulhsu_any a b _ ha0 ha hb0 hb).mono ?_
  rintro e w' ⟨rfl, rfl⟩
  go_wp2_with fail
  refine (excess_any b a _ hb0 hb).mono ?_
  rintro e w' ⟨rfl, rfl⟩
  go_wp2
  go_ret
  exact ⟨ret_int fin.out, rfl⟩

set_option maxHeartbeats 400000 in
theorem size_any (a : Int) (w : World) (ha0 : 0 ≤ a) (ha : a < 18446744073709551616) :
    Calls Try.prog 51 #[.int .u64 a] w fun e w' => e = .returned (.int .u64 (sizeI a)) ∧ w = w' := by
  have hn := isNeg_iff a ha0 ha
  unfold sizeI
  cases hi : isNeg a
  · clear hn
    have HI := Lib.hid hi; clear hi
    go_enter Try.func51, Try.ntmps51
    go_wp2_with fail
    refine (minus_any _ _ ha0).mono ?_
    rintro e w' ⟨rfl, rfl⟩
    rw [HI.out]
    go_wp2
    go_ret
    exact ⟨rfl, rfl⟩
  · have hw := hn.1 hi
    clear hn
    rw [if_pos rfl]
    have HI := Lib.hid hi; clear hi
    go_enter Try.func51, Try.ntmps51
    go_wp2_with fail
    refine (minus_any _ _ ha0).mono ?_
    rintro e w' ⟨rfl, rfl⟩
    rw [HI.out]
    go_wp2
    go_ret
    exact ⟨ret_int (by rw [IntKind.wrap_u64]; omega), rfl⟩

theorem not_word (h : Int) (h0 : 0 ≤ h) (h1 : h < 18446744073709551616) : bits .xor .u64 18446744073709551615 h = 18446744073709551615 - h := by
  obtain ⟨X, rfl⟩ := Int.eq_ofNat_of_zero_le h0
  have e := u64_xor_nat 18446744073709551615 X (by decide) (by omega)
  have e2 : 18446744073709551615 ^^^ X = 18446744073709551615 - X := by
    have h2 : X < 2 ^ 64 := by omega
    have e3 := BitVec.toNat_not (x := BitVec.ofNat 64 X)
    rw [← BitVec.allOnes_xor, BitVec.toNat_xor, BitVec.toNat_allOnes, BitVec.toNat_ofNat, Nat.mod_eq_of_lt h2] at e3
    omega
  rw [e2] at e
  have e4 : (18446744073709551615 : Int) = ((18446744073709551615 : Nat) : Int) := rfl
  rw [e4, e]; omega

set_option maxHeartbeats 400000 in
theorem upper_any (a b : Int) (m : Bool) (w : World) (ha0 : 0 ≤ a) (ha : a < 18446744073709551616) (hb0 : 0 ≤ b) (hb : b < 18446744073709551616) :
    Calls Try.prog 50 #[.int .u64 a, .int .u64 b, .bool m] w fun e w' => e = .returned (.int .u64 (upperI a b m)) ∧ w = w' := by
  have hm := mulhu_bd a b ha0 ha hb0 hb
  have hl : 0 ≤ a * b % 18446744073709551616 := by omega
  have K : ∀ w, Calls Try.prog 39 #[.int .u64 a, .int .u64 b] w fun e w' => e = .returned (.tuple #[.int .u64 (a * b / 18446744073709551616), .int .u64 (a * b % 18446744073709551616)]) ∧ w = w' := fun w => product_any a b w ha0 ha hb0 hb
  unfold upperI
  generalize a * b / 18446744073709551616 = hh at *
  generalize a * b % 18446744073709551616 = l at *
  have KK := Lib.hid K; clear K
  cases m
  · go_enter Try.func50, Try.ntmps50
    go_wp2_with fail
    refine (KK.out _).mono ?_
    rintro e w' ⟨rfl, rfl⟩
    go_wp2
    go_ret
    exact ⟨rfl, rfl⟩
  · by_cases hz : l = 0
    · subst hz
      rw [if_pos rfl, if_pos rfl]
      go_enter Try.func50, Try.ntmps50
      go_wp2_with fail
      refine (KK.out _).mono ?_
      rintro e w' ⟨rfl, rfl⟩
      go_wp2
      go_ret
      exact ⟨ret_int (by rw [IntKind.wrap_u64]), rfl⟩
    · have hzb : (l == 0) = false := beq_eq_false_iff_ne.2 hz
      rw [if_pos rfl, if_neg hz]; clear hz
      go_enter Try.func50, Try.ntmps50
      go_wp2_with fail
      refine (KK.out _).mono ?_
      rintro e w' ⟨rfl, rfl⟩
      go_wp2
      go_ret
      exact ⟨ret_int (by rw [show IntKind.u64.max = 18446744073709551615 from rfl, not_word hh hm.1 hm.2]; omega), rfl⟩

theorem size_bd (a : Int) (ha0 : 0 ≤ a) (ha : a < 18446744073709551616) : 0 ≤ sizeI a ∧ sizeI a < 18446744073709551616 := by
  have := size_wrap a ha0 ha; exact ⟨this.1, this.2.1⟩

set_option maxHeartbeats 400000 in
theorem refMulhsu_any (a b : Int) (w : World) (ha0 : 0 ≤ a) (ha : a < 18446744073709551616) (hb0 : 0 ≤ b) (hb : b < 18446744073709551616) :
    Calls Try.prog 41 #[.int .u64 a, .int .u64 b] w fun e w' => e = .returned (.int .u64 (mulhsuI a b)) ∧ w = w' := by
  have hs := size_bd a ha0 ha
  rw [← mulhsu_ref a b ha0 ha hb0 hb]
  go_enter Try.func41, Try.ntmps41
  go_wp2_with fail
  refine (size_any a _ ha0 ha).mono ?_
  rintro e w' ⟨rfl, rfl⟩
  go_wp2_with fail
  refine (minus_any a _ ha0).mono ?_
  rintro e w' ⟨rfl, rfl⟩
  go_wp2_with fail
  refine (upper_any _ _ _ _ hs.1 hs.2 hb0 hb).mono ?_
  rintro e w' ⟨rfl, rfl⟩
  go_wp2
  go_ret
  exact ⟨rfl, rfl⟩

set_option maxHeartbeats 400000 in
theorem refMulh_any (a b : Int) (w : World) (ha0 : 0 ≤ a) (ha : a < 18446744073709551616) (hb0 : 0 ≤ b) (hb : b < 18446744073709551616) :
    Calls Try.prog 40 #[.int .u64 a, .int .u64 b] w fun e w' => e = .returned (.int .u64 (mulhI a b)) ∧ w = w' := by
  have hs := size_bd a ha0 ha
  have ht := size_bd b hb0 hb
  rw [← mulh_ref a b ha0 ha hb0 hb]
  go_enter Try.func40, Try.ntmps40
  go_wp2_with fail
  refine (size_any a _ ha0 ha).mono ?_
  rintro e w' ⟨rfl, rfl⟩
  go_wp2_with fail
  refine (size_any b _ hb0 hb).mono ?_
  rintro e w' ⟨rfl, rfl⟩
  go_wp2_with fail
  refine (minus_any a _ ha0).mono ?_
  rintro e w' ⟨rfl, rfl⟩
  go_wp2_with fail
  refine (minus_any b _ hb0).mono ?_
  rintro e w' ⟨rfl, rfl⟩
  go_wp2_with fail
  refine (upper_any _ _ _ _ hs.1 hs.2 ht.1 ht.2).mono ?_
  rintro e w' ⟨rfl, rfl⟩
  go_wp2
  go_ret
  exact ⟨rfl, rfl⟩
end Go.Proofs.Ytfeohadlblpmcaa
