/-
  What the reference's Do answers, operator by operator: the same as the program's.
-/
import Derived.Test.YtfeohadlblpmcaaAluM
namespace Go.Proofs.Ytfeohadlblpmcaa
open Go.RowKit
set_option linter.unusedVariables false

set_option maxHeartbeats 1000000 in
theorem refDo_1 (a b : Int) (w : World) (ha0 : 0 ≤ a) (ha : a < 18446744073709551616) (hb0 : 0 ≤ b) (hb : b < 18446744073709551616) :
    Calls Try.prog 11 #[.int .i64 1, .int .u64 a, .int .u64 b] w fun e w' => e = .returned (.tuple #[.int .u64 (doV 1 a b), .bool true]) ∧ w = w' := by
  obtain ⟨k, kk⟩ := Int.eq_ofNat_of_zero_le (show 0 ≤ b % 64 by omega)
  obtain ⟨j, jj⟩ := Int.eq_ofNat_of_zero_le (show 0 ≤ b % 32 by omega)
  have hk : k < 64 := by omega
  have hj : j < 32 := by omega
  have KK := Lib.hid kk
  have JJ := Lib.hid jj
  go_enter Try.func11, Try.ntmps11
  go_wp2
  go_ret2
  exact ⟨rfl, rfl⟩

set_option maxHeartbeats 1000000 in
theorem refDo_22 (a b : Int) (w : World) (ha0 : 0 ≤ a) (ha : a < 18446744073709551616) (hb0 : 0 ≤ b) (hb : b < 18446744073709551616) :
    Calls Try.prog 11 #[.int .i64 22, .int .u64 a, .int .u64 b] w fun e w' => e = .returned (.tuple #[.int .u64 (doV 22 a b), .bool true]) ∧ w = w' := by
  obtain ⟨k, kk⟩ := Int.eq_ofNat_of_zero_le (show 0 ≤ b % 64 by omega)
  obtain ⟨j, jj⟩ := Int.eq_ofNat_of_zero_le (show 0 ≤ b % 32 by omega)
  have hk : k < 64 := by omega
  have hj : j < 32 := by omega
  have KK := Lib.hid kk
  have JJ := Lib.hid jj
  go_enter Try.func11, Try.ntmps11
  go_wp2
  go_ret2
  exact ⟨rfl, rfl⟩

set_option maxHeartbeats 1000000 in
theorem refDo_31 (a b : Int) (w : World) (ha0 : 0 ≤ a) (ha : a < 18446744073709551616) (hb0 : 0 ≤ b) (hb : b < 18446744073709551616) :
    Calls Try.prog 11 #[.int .i64 31, .int .u64 a, .int .u64 b] w fun e w' => e = .returned (.tuple #[.int .u64 (doV 31 a b), .bool true]) ∧ w = w' := by
  obtain ⟨k, kk⟩ := Int.eq_ofNat_of_zero_le (show 0 ≤ b % 64 by omega)
  obtain ⟨j, jj⟩ := Int.eq_ofNat_of_zero_le (show 0 ≤ b % 32 by omega)
  have hk : k < 64 := by omega
  have hj : j < 32 := by omega
  have KK := Lib.hid kk
  have JJ := Lib.hid jj
  go_enter Try.func11, Try.ntmps11
  go_wp2
  go_ret2
  exact ⟨rfl, rfl⟩

set_option maxHeartbeats 1000000 in
theorem refDo_32 (a b : Int) (w : World) (ha0 : 0 ≤ a) (ha : a < 18446744073709551616) (hb0 : 0 ≤ b) (hb : b < 18446744073709551616) :
    Calls Try.prog 11 #[.int .i64 32, .int .u64 a, .int .u64 b] w fun e w' => e = .returned (.tuple #[.int .u64 (doV 32 a b), .bool true]) ∧ w = w' := by
  obtain ⟨k, kk⟩ := Int.eq_ofNat_of_zero_le (show 0 ≤ b % 64 by omega)
  obtain ⟨j, jj⟩ := Int.eq_ofNat_of_zero_le (show 0 ≤ b % 32 by omega)
  have hk : k < 64 := by omega
  have hj : j < 32 := by omega
  have KK := Lib.hid kk
  have JJ := Lib.hid jj
  go_enter Try.func11, Try.ntmps11
  go_wp2
  go_ret2
  exact ⟨rfl, rfl⟩

set_option maxHeartbeats 1000000 in
theorem refDo_25 (a b : Int) (w : World) (ha0 : 0 ≤ a) (ha : a < 18446744073709551616) (hb0 : 0 ≤ b) (hb : b < 18446744073709551616) :
    Calls Try.prog 11 #[.int .i64 25, .int .u64 a, .int .u64 b] w fun e w' => e = .returned (.tuple #[.int .u64 (doV 25 a b), .bool true]) ∧ w = w' := by
  obtain ⟨k, kk⟩ := Int.eq_ofNat_of_zero_le (show 0 ≤ b % 64 by omega)
  obtain ⟨j, jj⟩ := Int.eq_ofNat_of_zero_le (show 0 ≤ b % 32 by omega)
  have hk : k < 64 := by omega
  have hj : j < 32 := by omega
  have KK := Lib.hid kk
  have JJ := Lib.hid jj
  go_enter Try.func11, Try.ntmps11
  go_wp2
  go_ret2
  exact ⟨rfl, rfl⟩

set_option maxHeartbeats 1000000 in
theorem refDo_36 (a b : Int) (w : World) (ha0 : 0 ≤ a) (ha : a < 18446744073709551616) (hb0 : 0 ≤ b) (hb : b < 18446744073709551616) :
    Calls Try.prog 11 #[.int .i64 36, .int .u64 a, .int .u64 b] w fun e w' => e = .returned (.tuple #[.int .u64 (doV 36 a b), .bool true]) ∧ w = w' := by
  obtain ⟨k, kk⟩ := Int.eq_ofNat_of_zero_le (show 0 ≤ b % 64 by omega)
  obtain ⟨j, jj⟩ := Int.eq_ofNat_of_zero_le (show 0 ≤ b % 32 by omega)
  have hk : k < 64 := by omega
  have hj : j < 32 := by omega
  have KK := Lib.hid kk
  have JJ := Lib.hid jj
  go_enter Try.func11, Try.ntmps11
  go_wp2
  go_ret2
  exact ⟨rfl, rfl⟩

set_option maxHeartbeats 1000000 in
theorem refDo_26 (a b : Int) (w : World) (ha0 : 0 ≤ a) (ha : a < 18446744073709551616) (hb0 : 0 ≤ b) (hb : b < 18446744073709551616) :
    Calls Try.prog 11 #[.int .i64 26, .int .u64 a, .int .u64 b] w fun e w' => e = .returned (.tuple #[.int .u64 (doV 26 a b), .bool true]) ∧ w = w' := by
  obtain ⟨k, kk⟩ := Int.eq_ofNat_of_zero_le (show 0 ≤ b % 64 by omega)
  obtain ⟨j, jj⟩ := Int.eq_ofNat_of_zero_le (show 0 ≤ b % 32 by omega)
  have hk : k < 64 := by omega
  have hj : j < 32 := by omega
  have KK := Lib.hid kk
  have JJ := Lib.hid jj
  go_enter Try.func11, Try.ntmps11
  go_wp2
  go_ret2
  exact ⟨rfl, rfl⟩

set_option maxHeartbeats 1000000 in
theorem refDo_39 (a b : Int) (w : World) (ha0 : 0 ≤ a) (ha : a < 18446744073709551616) (hb0 : 0 ≤ b) (hb : b < 18446744073709551616) :
    Calls Try.prog 11 #[.int .i64 39, .int .u64 a, .int .u64 b] w fun e w' => e = .returned (.tuple #[.int .u64 (doV 39 a b), .bool true]) ∧ w = w' := by
  obtain ⟨k, kk⟩ := Int.eq_ofNat_of_zero_le (show 0 ≤ b % 64 by omega)
  obtain ⟨j, jj⟩ := Int.eq_ofNat_of_zero_le (show 0 ≤ b % 32 by omega)
  have hk : k < 64 := by omega
  have hj : j < 32 := by omega
  have KK := Lib.hid kk
  have JJ := Lib.hid jj
  go_enter Try.func11, Try.ntmps11
  go_wp2
  go_ret2
  exact ⟨rfl, rfl⟩

set_option maxHeartbeats 1000000 in
theorem refDo_27 (a b : Int) (w : World) (ha0 : 0 ≤ a) (ha : a < 18446744073709551616) (hb0 : 0 ≤ b) (hb : b < 18446744073709551616) :
    Calls Try.prog 11 #[.int .i64 27, .int .u64 a, .int .u64 b] w fun e w' => e = .returned (.tuple #[.int .u64 (doV 27 a b), .bool true]) ∧ w = w' := by
  obtain ⟨k, kk⟩ := Int.eq_ofNat_of_zero_le (show 0 ≤ b % 64 by omega)
  obtain ⟨j, jj⟩ := Int.eq_ofNat_of_zero_le (show 0 ≤ b % 32 by omega)
  have hk : k < 64 := by omega
  have hj : j < 32 := by omega
  have KK := Lib.hid kk
  have JJ := Lib.hid jj
  go_enter Try.func11, Try.ntmps11
  go_wp2
  go_ret2
  exact ⟨rfl, rfl⟩

set_option maxHeartbeats 1000000 in
theorem refDo_40 (a b : Int) (w : World) (ha0 : 0 ≤ a) (ha : a < 18446744073709551616) (hb0 : 0 ≤ b) (hb : b < 18446744073709551616) :
    Calls Try.prog 11 #[.int .i64 40, .int .u64 a, .int .u64 b] w fun e w' => e = .returned (.tuple #[.int .u64 (doV 40 a b), .bool true]) ∧ w = w' := by
  obtain ⟨k, kk⟩ := Int.eq_ofNat_of_zero_le (show 0 ≤ b % 64 by omega)
  obtain ⟨j, jj⟩ := Int.eq_ofNat_of_zero_le (show 0 ≤ b % 32 by omega)
  have hk : k < 64 := by omega
  have hj : j < 32 := by omega
  have KK := Lib.hid kk
  have JJ := Lib.hid jj
  go_enter Try.func11, Try.ntmps11
  go_wp2
  go_ret2
  exact ⟨rfl, rfl⟩

set_option maxHeartbeats 1000000 in
theorem refDo_23 (a b : Int) (w : World) (ha0 : 0 ≤ a) (ha : a < 18446744073709551616) (hb0 : 0 ≤ b) (hb : b < 18446744073709551616) :
    Calls Try.prog 11 #[.int .i64 23, .int .u64 a, .int .u64 b] w fun e w' => e = .returned (.tuple #[.int .u64 (doV 23 a b), .bool true]) ∧ w = w' := by
  obtain ⟨k, kk⟩ := Int.eq_ofNat_of_zero_le (show 0 ≤ b % 64 by omega)
  obtain ⟨j, jj⟩ := Int.eq_ofNat_of_zero_le (show 0 ≤ b % 32 by omega)
  have hk : k < 64 := by omega
  have hj : j < 32 := by omega
  have KK := Lib.hid kk
  have JJ := Lib.hid jj
  go_enter Try.func11, Try.ntmps11
  go_wp2_with fail
  refine (less_any _ _ _ ha0 ha hb0 hb).mono ?_
  rintro e w' ⟨rfl, rfl⟩
  go_wp2_with fail
  refine (truth_any _ _).mono ?_
  rintro e w' ⟨rfl, rfl⟩
  go_wp2
  go_ret2
  exact ⟨rfl, rfl⟩

set_option maxHeartbeats 1000000 in
theorem refDo_34 (a b : Int) (w : World) (ha0 : 0 ≤ a) (ha : a < 18446744073709551616) (hb0 : 0 ≤ b) (hb : b < 18446744073709551616) :
    Calls Try.prog 11 #[.int .i64 34, .int .u64 a, .int .u64 b] w fun e w' => e = .returned (.tuple #[.int .u64 (doV 34 a b), .bool true]) ∧ w = w' := by
  obtain ⟨k, kk⟩ := Int.eq_ofNat_of_zero_le (show 0 ≤ b % 64 by omega)
  obtain ⟨j, jj⟩ := Int.eq_ofNat_of_zero_le (show 0 ≤ b % 32 by omega)
  have hk : k < 64 := by omega
  have hj : j < 32 := by omega
  have KK := Lib.hid kk
  have JJ := Lib.hid jj
  go_enter Try.func11, Try.ntmps11
  go_wp2_with fail
  refine (less_any _ _ _ ha0 ha hb0 hb).mono ?_
  rintro e w' ⟨rfl, rfl⟩
  go_wp2_with fail
  refine (truth_any _ _).mono ?_
  rintro e w' ⟨rfl, rfl⟩
  go_wp2
  go_ret2
  exact ⟨rfl, rfl⟩

set_option maxHeartbeats 1000000 in
theorem refDo_24 (a b : Int) (w : World) (ha0 : 0 ≤ a) (ha : a < 18446744073709551616) (hb0 : 0 ≤ b) (hb : b < 18446744073709551616) :
    Calls Try.prog 11 #[.int .i64 24, .int .u64 a, .int .u64 b] w fun e w' => e = .returned (.tuple #[.int .u64 (doV 24 a b), .bool true]) ∧ w = w' := by
  obtain ⟨k, kk⟩ := Int.eq_ofNat_of_zero_le (show 0 ≤ b % 64 by omega)
  obtain ⟨j, jj⟩ := Int.eq_ofNat_of_zero_le (show 0 ≤ b % 32 by omega)
  have hk : k < 64 := by omega
  have hj : j < 32 := by omega
  have KK := Lib.hid kk
  have JJ := Lib.hid jj
  go_enter Try.func11, Try.ntmps11
  go_wp2_with fail
  refine (truth_any _ _).mono ?_
  rintro e w' ⟨rfl, rfl⟩
  go_wp2
  go_ret2
  exact ⟨rfl, rfl⟩

set_option maxHeartbeats 1000000 in
theorem refDo_35 (a b : Int) (w : World) (ha0 : 0 ≤ a) (ha : a < 18446744073709551616) (hb0 : 0 ≤ b) (hb : b < 18446744073709551616) :
    Calls Try.prog 11 #[.int .i64 35, .int .u64 a, .int .u64 b] w fun e w' => e = .returned (.tuple #[.int .u64 (doV 35 a b), .bool true]) ∧ w = w' := by
  obtain ⟨k, kk⟩ := Int.eq_ofNat_of_zero_le (show 0 ≤ b % 64 by omega)
  obtain ⟨j, jj⟩ := Int.eq_ofNat_of_zero_le (show 0 ≤ b % 32 by omega)
  have hk : k < 64 := by omega
  have hj : j < 32 := by omega
  have KK := Lib.hid kk
  have JJ := Lib.hid jj
  go_enter Try.func11, Try.ntmps11
  go_wp2_with fail
  refine (truth_any _ _).mono ?_
  rintro e w' ⟨rfl, rfl⟩
  go_wp2
  go_ret2
  exact ⟨rfl, rfl⟩

set_option maxHeartbeats 1000000 in
theorem refDo_28 (a b : Int) (w : World) (ha0 : 0 ≤ a) (ha : a < 18446744073709551616) (hb0 : 0 ≤ b) (hb : b < 18446744073709551616) :
    Calls Try.prog 11 #[.int .i64 28, .int .u64 a, .int .u64 b] w fun e w' => e = .returned (.tuple #[.int .u64 (doV 28 a b), .bool true]) ∧ w = w' := by
  obtain ⟨k, kk⟩ := Int.eq_ofNat_of_zero_le (show 0 ≤ b % 64 by omega)
  obtain ⟨j, jj⟩ := Int.eq_ofNat_of_zero_le (show 0 ≤ b % 32 by omega)
  have hk : k < 64 := by omega
  have hj : j < 32 := by omega
  have KK := Lib.hid kk
  have JJ := Lib.hid jj
  go_enter Try.func11, Try.ntmps11
  go_wp2
  go_ret2
  exact ⟨ret_pairb (by have e : (b % 64).toNat = k := (by have := KK.out; omega); show _ = IntKind.u64.wrap (a * 2 ^ (b % 64).toNat); rw [e]), rfl⟩

set_option maxHeartbeats 1000000 in
theorem refDo_33 (a b : Int) (w : World) (ha0 : 0 ≤ a) (ha : a < 18446744073709551616) (hb0 : 0 ≤ b) (hb : b < 18446744073709551616) :
    Calls Try.prog 11 #[.int .i64 33, .int .u64 a, .int .u64 b] w fun e w' => e = .returned (.tuple #[.int .u64 (doV 33 a b), .bool true]) ∧ w = w' := by
  obtain ⟨k, kk⟩ := Int.eq_ofNat_of_zero_le (show 0 ≤ b % 64 by omega)
  obtain ⟨j, jj⟩ := Int.eq_ofNat_of_zero_le (show 0 ≤ b % 32 by omega)
  have hk : k < 64 := by omega
  have hj : j < 32 := by omega
  have KK := Lib.hid kk
  have JJ := Lib.hid jj
  go_enter Try.func11, Try.ntmps11
  go_wp2
  go_ret2
  exact ⟨ret_pairb (by have e : (b % 64).toNat = k := (by have := KK.out; omega); show _ = IntKind.u64.wrap (a * 2 ^ (b % 64).toNat); rw [e]), rfl⟩

set_option maxHeartbeats 1000000 in
theorem refDo_29 (a b : Int) (w : World) (ha0 : 0 ≤ a) (ha : a < 18446744073709551616) (hb0 : 0 ≤ b) (hb : b < 18446744073709551616) :
    Calls Try.prog 11 #[.int .i64 29, .int .u64 a, .int .u64 b] w fun e w' => e = .returned (.tuple #[.int .u64 (doV 29 a b), .bool true]) ∧ w = w' := by
  obtain ⟨k, kk⟩ := Int.eq_ofNat_of_zero_le (show 0 ≤ b % 64 by omega)
  obtain ⟨j, jj⟩ := Int.eq_ofNat_of_zero_le (show 0 ≤ b % 32 by omega)
  have hk : k < 64 := by omega
  have hj : j < 32 := by omega
  have KK := Lib.hid kk
  have JJ := Lib.hid jj
  go_enter Try.func11, Try.ntmps11
  go_wp2_with fail
  refine (right_any _ _ _ _ ha0 ha (by omega) (.inl rfl)).mono ?_
  rintro e w' ⟨rfl, rfl⟩
  go_wp2
  go_ret2
  exact ⟨ret_pairb (by have e : (b % 64).toNat = k := (by have := KK.out; omega); show _ = a / 2 ^ (b % 64).toNat; rw [e]; exact ref_srl a k ha0 ha), rfl⟩

set_option maxHeartbeats 1000000 in
theorem refDo_37 (a b : Int) (w : World) (ha0 : 0 ≤ a) (ha : a < 18446744073709551616) (hb0 : 0 ≤ b) (hb : b < 18446744073709551616) :
    Calls Try.prog 11 #[.int .i64 37, .int .u64 a, .int .u64 b] w fun e w' => e = .returned (.tuple #[.int .u64 (doV 37 a b), .bool true]) ∧ w = w' := by
  obtain ⟨k, kk⟩ := Int.eq_ofNat_of_zero_le (show 0 ≤ b % 64 by omega)
  obtain ⟨j, jj⟩ := Int.eq_ofNat_of_zero_le (show 0 ≤ b % 32 by omega)
  have hk : k < 64 := by omega
  have hj : j < 32 := by omega
  have KK := Lib.hid kk
  have JJ := Lib.hid jj
  go_enter Try.func11, Try.ntmps11
  go_wp2_with fail
  refine (right_any _ _ _ _ ha0 ha (by omega) (.inl rfl)).mono ?_
  rintro e w' ⟨rfl, rfl⟩
  go_wp2
  go_ret2
  exact ⟨ret_pairb (by have e : (b % 64).toNat = k := (by have := KK.out; omega); show _ = a / 2 ^ (b % 64).toNat; rw [e]; exact ref_srl a k ha0 ha), rfl⟩

set_option maxHeartbeats 1000000 in
theorem refDo_30 (a b : Int) (w : World) (ha0 : 0 ≤ a) (ha : a < 18446744073709551616) (hb0 : 0 ≤ b) (hb : b < 18446744073709551616) :
    Calls Try.prog 11 #[.int .i64 30, .int .u64 a, .int .u64 b] w fun e w' => e = .returned (.tuple #[.int .u64 (doV 30 a b), .bool true]) ∧ w = w' := by
  obtain ⟨k, kk⟩ := Int.eq_ofNat_of_zero_le (show 0 ≤ b % 64 by omega)
  obtain ⟨j, jj⟩ := Int.eq_ofNat_of_zero_le (show 0 ≤ b % 32 by omega)
  have hk : k < 64 := by omega
  have hj : j < 32 := by omega
  have KK := Lib.hid kk
  have JJ := Lib.hid jj
  go_enter Try.func11, Try.ntmps11
  go_wp2_with fail
  refine (bit_any _ _ _ ha0 (by omega) (by omega)).mono ?_
  rintro e w' ⟨rfl, rfl⟩
  go_wp2_with fail
  refine (right_any _ _ _ _ ha0 ha (by omega) (bit_two _)).mono ?_
  rintro e w' ⟨rfl, rfl⟩
  go_wp2
  go_ret2
  exact ⟨ret_pairb (by have e : (b % 64).toNat = k := (by have := KK.out; omega); show _ = IntKind.u64.wrap (wrap64 a / 2 ^ (b % 64).toNat); rw [e]; exact ref_sra a k ha0 ha), rfl⟩

set_option maxHeartbeats 1000000 in
theorem refDo_38 (a b : Int) (w : World) (ha0 : 0 ≤ a) (ha : a < 18446744073709551616) (hb0 : 0 ≤ b) (hb : b < 18446744073709551616) :
    Calls Try.prog 11 #[.int .i64 38, .int .u64 a, .int .u64 b] w fun e w' => e = .returned (.tuple #[.int .u64 (doV 38 a b), .bool true]) ∧ w = w' := by
  obtain ⟨k, kk⟩ := Int.eq_ofNat_of_zero_le (show 0 ≤ b % 64 by omega)
  obtain ⟨j, jj⟩ := Int.eq_ofNat_of_zero_le (show 0 ≤ b % 32 by omega)
  have hk : k < 64 := by omega
  have hj : j < 32 := by omega
  have KK := Lib.hid kk
  have JJ := Lib.hid jj
  go_enter Try.func11, Try.ntmps11
  go_wp2_with fail
  refine (bit_any _ _ _ ha0 (by omega) (by omega)).mono ?_
  rintro e w' ⟨rfl, rfl⟩
  go_wp2_with fail
  refine (right_any _ _ _ _ ha0 ha (by omega) (bit_two _)).mono ?_
  rintro e w' ⟨rfl, rfl⟩
  go_wp2
  go_ret2
  exact ⟨ret_pairb (by have e : (b % 64).toNat = k := (by have := KK.out; omega); show _ = IntKind.u64.wrap (wrap64 a / 2 ^ (b % 64).toNat); rw [e]; exact ref_sra a k ha0 ha), rfl⟩

set_option maxHeartbeats 1000000 in
theorem refDo_41 (a b : Int) (w : World) (ha0 : 0 ≤ a) (ha : a < 18446744073709551616) (hb0 : 0 ≤ b) (hb : b < 18446744073709551616) :
    Calls Try.prog 11 #[.int .i64 41, .int .u64 a, .int .u64 b] w fun e w' => e = .returned (.tuple #[.int .u64 (doV 41 a b), .bool true]) ∧ w = w' := by
  obtain ⟨k, kk⟩ := Int.eq_ofNat_of_zero_le (show 0 ≤ b % 64 by omega)
  obtain ⟨j, jj⟩ := Int.eq_ofNat_of_zero_le (show 0 ≤ b % 32 by omega)
  have hk : k < 64 := by omega
  have hj : j < 32 := by omega
  have KK := Lib.hid kk
  have JJ := Lib.hid jj
  go_enter Try.func11, Try.ntmps11
  go_wp2_with fail
  refine (refSext_any _ _ _ (by first | omega | (rw [IntKind.wrap_u64]; omega) | exact Int.mul_nonneg (by omega) (by omega) | exact Int.ediv_nonneg (by omega) (Int.le_of_lt (pow_pos' _)))).mono ?_
  rintro e w' ⟨rfl, rfl⟩
  go_wp2
  go_ret2
  exact ⟨ret_pairb (by show sextI _ 32 = sextI (((a % 4294967296) + (b % 4294967296)) % 4294967296) 32; exact sext_mod _ _ (by first | omega | (rw [IntKind.wrap_u64]; omega))), rfl⟩

set_option maxHeartbeats 1000000 in
theorem refDo_45 (a b : Int) (w : World) (ha0 : 0 ≤ a) (ha : a < 18446744073709551616) (hb0 : 0 ≤ b) (hb : b < 18446744073709551616) :
    Calls Try.prog 11 #[.int .i64 45, .int .u64 a, .int .u64 b] w fun e w' => e = .returned (.tuple #[.int .u64 (doV 45 a b), .bool true]) ∧ w = w' := by
  obtain ⟨k, kk⟩ := Int.eq_ofNat_of_zero_le (show 0 ≤ b % 64 by omega)
  obtain ⟨j, jj⟩ := Int.eq_ofNat_of_zero_le (show 0 ≤ b % 32 by omega)
  have hk : k < 64 := by omega
  have hj : j < 32 := by omega
  have KK := Lib.hid kk
  have JJ := Lib.hid jj
  go_enter Try.func11, Try.ntmps11
  go_wp2_with fail
  refine (refSext_any _ _ _ (by first | omega | (rw [IntKind.wrap_u64]; omega) | exact Int.mul_nonneg (by omega) (by omega) | exact Int.ediv_nonneg (by omega) (Int.le_of_lt (pow_pos' _)))).mono ?_
  rintro e w' ⟨rfl, rfl⟩
  go_wp2
  go_ret2
  exact ⟨ret_pairb (by show sextI _ 32 = sextI (((a % 4294967296) + (b % 4294967296)) % 4294967296) 32; exact sext_mod _ _ (by first | omega | (rw [IntKind.wrap_u64]; omega))), rfl⟩

set_option maxHeartbeats 1000000 in
theorem refDo_46 (a b : Int) (w : World) (ha0 : 0 ≤ a) (ha : a < 18446744073709551616) (hb0 : 0 ≤ b) (hb : b < 18446744073709551616) :
    Calls Try.prog 11 #[.int .i64 46, .int .u64 a, .int .u64 b] w fun e w' => e = .returned (.tuple #[.int .u64 (doV 46 a b), .bool true]) ∧ w = w' := by
  obtain ⟨k, kk⟩ := Int.eq_ofNat_of_zero_le (show 0 ≤ b % 64 by omega)
  obtain ⟨j, jj⟩ := Int.eq_ofNat_of_zero_le (show 0 ≤ b % 32 by omega)
  have hk : k < 64 := by omega
  have hj : j < 32 := by omega
  have KK := Lib.hid kk
  have JJ := Lib.hid jj
  go_enter Try.func11, Try.ntmps11
  go_wp2_with fail
  refine (refSext_any _ _ _ (by first | omega | (rw [IntKind.wrap_u64]; omega) | exact Int.mul_nonneg (by omega) (by omega) | exact Int.ediv_nonneg (by omega) (Int.le_of_lt (pow_pos' _)))).mono ?_
  rintro e w' ⟨rfl, rfl⟩
  go_wp2
  go_ret2
  exact ⟨ret_pairb (by show sextI _ 32 = sextI (((a % 4294967296) - (b % 4294967296)) % 4294967296) 32; exact sext_mod _ _ (by first | omega | (rw [IntKind.wrap_u64]; omega))), rfl⟩

set_option maxHeartbeats 1000000 in
theorem refDo_58 (a b : Int) (w : World) (ha0 : 0 ≤ a) (ha : a < 18446744073709551616) (hb0 : 0 ≤ b) (hb : b < 18446744073709551616) :
    Calls Try.prog 11 #[.int .i64 58, .int .u64 a, .int .u64 b] w fun e w' => e = .returned (.tuple #[.int .u64 (doV 58 a b), .bool true]) ∧ w = w' := by
  obtain ⟨k, kk⟩ := Int.eq_ofNat_of_zero_le (show 0 ≤ b % 64 by omega)
  obtain ⟨j, jj⟩ := Int.eq_ofNat_of_zero_le (show 0 ≤ b % 32 by omega)
  have hk : k < 64 := by omega
  have hj : j < 32 := by omega
  have KK := Lib.hid kk
  have JJ := Lib.hid jj
  go_enter Try.func11, Try.ntmps11
  go_wp2_with fail
  refine (refSext_any _ _ _ (by first | omega | (rw [IntKind.wrap_u64]; omega) | exact Int.mul_nonneg (by omega) (by omega) | exact Int.ediv_nonneg (by omega) (Int.le_of_lt (pow_pos' _)))).mono ?_
  rintro e w' ⟨rfl, rfl⟩
  go_wp2
  go_ret2
  exact ⟨ret_pairb (by show sextI _ 32 = sextI ((a % 4294967296) * (b % 4294967296) % 4294967296) 32; generalize (a % 4294967296) * (b % 4294967296) = X; exact sext_mod _ _ (by first | omega | (rw [IntKind.wrap_u64]; omega))), rfl⟩

set_option maxHeartbeats 1000000 in
theorem refDo_42 (a b : Int) (w : World) (ha0 : 0 ≤ a) (ha : a < 18446744073709551616) (hb0 : 0 ≤ b) (hb : b < 18446744073709551616) :
    Calls Try.prog 11 #[.int .i64 42, .int .u64 a, .int .u64 b] w fun e w' => e = .returned (.tuple #[.int .u64 (doV 42 a b), .bool true]) ∧ w = w' := by
  obtain ⟨k, kk⟩ := Int.eq_ofNat_of_zero_le (show 0 ≤ b % 64 by omega)
  obtain ⟨j, jj⟩ := Int.eq_ofNat_of_zero_le (show 0 ≤ b % 32 by omega)
  have hk : k < 64 := by omega
  have hj : j < 32 := by omega
  have KK := Lib.hid kk
  have JJ := Lib.hid jj
  go_enter Try.func11, Try.ntmps11
  go_wp2_with fail
  refine (refSext_any _ _ _ (by first | omega | (rw [IntKind.wrap_u64]; omega) | exact Int.mul_nonneg (by omega) (by omega) | exact Int.ediv_nonneg (by omega) (Int.le_of_lt (pow_pos' _)))).mono ?_
  rintro e w' ⟨rfl, rfl⟩
  go_wp2
  go_ret2
  exact ⟨ret_pairb (by have e : (b % 4294967296 % 32).toNat = j := (by have := JJ.out; omega); show sextI _ 32 = sextI ((a % 4294967296) * 2 ^ ((b % 4294967296) % 32).toNat % 4294967296) 32; rw [e]; generalize (a % 4294967296) * 2 ^ j = X; exact sext_mod _ _ (by first | omega | (rw [IntKind.wrap_u64]; omega))), rfl⟩

set_option maxHeartbeats 1000000 in
theorem refDo_47 (a b : Int) (w : World) (ha0 : 0 ≤ a) (ha : a < 18446744073709551616) (hb0 : 0 ≤ b) (hb : b < 18446744073709551616) :
    Calls Try.prog 11 #[.int .i64 47, .int .u64 a, .int .u64 b] w fun e w' => e = .returned (.tuple #[.int .u64 (doV 47 a b), .bool true]) ∧ w = w' := by
  obtain ⟨k, kk⟩ := Int.eq_ofNat_of_zero_le (show 0 ≤ b % 64 by omega)
  obtain ⟨j, jj⟩ := Int.eq_ofNat_of_zero_le (show 0 ≤ b % 32 by omega)
  have hk : k < 64 := by omega
  have hj : j < 32 := by omega
  have KK := Lib.hid kk
  have JJ := Lib.hid jj
  go_enter Try.func11, Try.ntmps11
  go_wp2_with fail
  refine (refSext_any _ _ _ (by first | omega | (rw [IntKind.wrap_u64]; omega) | exact Int.mul_nonneg (by omega) (by omega) | exact Int.ediv_nonneg (by omega) (Int.le_of_lt (pow_pos' _)))).mono ?_
  rintro e w' ⟨rfl, rfl⟩
  go_wp2
  go_ret2
  exact ⟨ret_pairb (by have e : (b % 4294967296 % 32).toNat = j := (by have := JJ.out; omega); show sextI _ 32 = sextI ((a % 4294967296) * 2 ^ ((b % 4294967296) % 32).toNat % 4294967296) 32; rw [e]; generalize (a % 4294967296) * 2 ^ j = X; exact sext_mod _ _ (by first | omega | (rw [IntKind.wrap_u64]; omega))), rfl⟩

set_option maxHeartbeats 1000000 in
theorem refDo_43 (a b : Int) (w : World) (ha0 : 0 ≤ a) (ha : a < 18446744073709551616) (hb0 : 0 ≤ b) (hb : b < 18446744073709551616) :
    Calls Try.prog 11 #[.int .i64 43, .int .u64 a, .int .u64 b] w fun e w' => e = .returned (.tuple #[.int .u64 (doV 43 a b), .bool true]) ∧ w = w' := by
  obtain ⟨k, kk⟩ := Int.eq_ofNat_of_zero_le (show 0 ≤ b % 64 by omega)
  obtain ⟨j, jj⟩ := Int.eq_ofNat_of_zero_le (show 0 ≤ b % 32 by omega)
  have hk : k < 64 := by omega
  have hj : j < 32 := by omega
  have KK := Lib.hid kk
  have JJ := Lib.hid jj
  go_enter Try.func11, Try.ntmps11
  go_wp2_with fail
  refine (refSext_any _ _ _ (by first | omega | (rw [IntKind.wrap_u64]; omega) | exact Int.mul_nonneg (by omega) (by omega) | exact Int.ediv_nonneg (by omega) (Int.le_of_lt (pow_pos' _)))).mono ?_
  rintro e w' ⟨rfl, rfl⟩
  go_wp2
  go_ret2
  exact ⟨ret_pairb (by have e : (b % 4294967296 % 32).toNat = j := (by have := JJ.out; omega); show sextI _ 32 = sextI ((a % 4294967296) / 2 ^ ((b % 4294967296) % 32).toNat) 32; rw [e]), rfl⟩

set_option maxHeartbeats 1000000 in
theorem refDo_48 (a b : Int) (w : World) (ha0 : 0 ≤ a) (ha : a < 18446744073709551616) (hb0 : 0 ≤ b) (hb : b < 18446744073709551616) :
    Calls Try.prog 11 #[.int .i64 48, .int .u64 a, .int .u64 b] w fun e w' => e = .returned (.tuple #[.int .u64 (doV 48 a b), .bool true]) ∧ w = w' := by
  obtain ⟨k, kk⟩ := Int.eq_ofNat_of_zero_le (show 0 ≤ b % 64 by omega)
  obtain ⟨j, jj⟩ := Int.eq_ofNat_of_zero_le (show 0 ≤ b % 32 by omega)
  have hk : k < 64 := by omega
  have hj : j < 32 := by omega
  have KK := Lib.hid kk
  have JJ := Lib.hid jj
  go_enter Try.func11, Try.ntmps11
  go_wp2_with fail
  refine (refSext_any _ _ _ (by first | omega | (rw [IntKind.wrap_u64]; omega) | exact Int.mul_nonneg (by omega) (by omega) | exact Int.ediv_nonneg (by omega) (Int.le_of_lt (pow_pos' _)))).mono ?_
  rintro e w' ⟨rfl, rfl⟩
  go_wp2
  go_ret2
  exact ⟨ret_pairb (by have e : (b % 4294967296 % 32).toNat = j := (by have := JJ.out; omega); show sextI _ 32 = sextI ((a % 4294967296) / 2 ^ ((b % 4294967296) % 32).toNat) 32; rw [e]), rfl⟩

set_option maxHeartbeats 1000000 in
theorem refDo_44 (a b : Int) (w : World) (ha0 : 0 ≤ a) (ha : a < 18446744073709551616) (hb0 : 0 ≤ b) (hb : b < 18446744073709551616) :
    Calls Try.prog 11 #[.int .i64 44, .int .u64 a, .int .u64 b] w fun e w' => e = .returned (.tuple #[.int .u64 (doV 44 a b), .bool true]) ∧ w = w' := by
  obtain ⟨k, kk⟩ := Int.eq_ofNat_of_zero_le (show 0 ≤ b % 64 by omega)
  obtain ⟨j, jj⟩ := Int.eq_ofNat_of_zero_le (show 0 ≤ b % 32 by omega)
  have hk : k < 64 := by omega
  have hj : j < 32 := by omega
  have KK := Lib.hid kk
  have JJ := Lib.hid jj
  go_enter Try.func11, Try.ntmps11
  go_wp2_with fail
  refine (refSext_any _ _ _ (by omega)).mono ?_
  rintro e w' ⟨rfl, rfl⟩
  go_wp2_with fail
  refine (bit_any _ _ _ (by omega) (by omega) (by omega)).mono ?_
  rintro e w' ⟨rfl, rfl⟩
  go_wp2_with fail
  refine (right_any _ _ _ _ (sext32_bd _).1 (sext32_bd _).2 (by omega) (bit_two _)).mono ?_
  rintro e w' ⟨rfl, rfl⟩
  go_wp2
  go_ret2
  exact ⟨ret_pairb (by have e : (b % 4294967296 % 32).toNat = j := (by have := JJ.out; omega); show _ = sextI (wrap32 (a % 4294967296) / 2 ^ ((b % 4294967296) % 32).toNat % 4294967296) 32; rw [e]; exact ref_sraw _ j (by omega) (by omega)), rfl⟩

set_option maxHeartbeats 1000000 in
theorem refDo_49 (a b : Int) (w : World) (ha0 : 0 ≤ a) (ha : a < 18446744073709551616) (hb0 : 0 ≤ b) (hb : b < 18446744073709551616) :
    Calls Try.prog 11 #[.int .i64 49, .int .u64 a, .int .u64 b] w fun e w' => e = .returned (.tuple #[.int .u64 (doV 49 a b), .bool true]) ∧ w = w' := by
  obtain ⟨k, kk⟩ := Int.eq_ofNat_of_zero_le (show 0 ≤ b % 64 by omega)
  obtain ⟨j, jj⟩ := Int.eq_ofNat_of_zero_le (show 0 ≤ b % 32 by omega)
  have hk : k < 64 := by omega
  have hj : j < 32 := by omega
  have KK := Lib.hid kk
  have JJ := Lib.hid jj
  go_enter Try.func11, Try.ntmps11
  go_wp2_with fail
  refine (refSext_any _ _ _ (by omega)).mono ?_
  rintro e w' ⟨rfl, rfl⟩
  go_wp2_with fail
  refine (bit_any _ _ _ (by omega) (by omega) (by omega)).mono ?_
  rintro e w' ⟨rfl, rfl⟩
  go_wp2_with fail
  refine (right_any _ _ _ _ (sext32_bd _).1 (sext32_bd _).2 (by omega) (bit_two _)).mono ?_
  rintro e w' ⟨rfl, rfl⟩
  go_wp2
  go_ret2
  exact ⟨ret_pairb (by have e : (b % 4294967296 % 32).toNat = j := (by have := JJ.out; omega); show _ = sextI (wrap32 (a % 4294967296) / 2 ^ ((b % 4294967296) % 32).toNat % 4294967296) 32; rw [e]; exact ref_sraw _ j (by omega) (by omega)), rfl⟩
end Go.Proofs.Ytfeohadlblpmcaa
