/-
  What the reference's products and Do answer, operator by operator, and altogether: the same as the program's.
-/
import Derived.Test.YtfeohadlblpmcaaAluD
namespace Go.Proofs.Ytfeohadlblpmcaa
open Go.RowKit
set_option linter.unusedVariables false
theorem div_bd (x y : Int) : 0 ≤ divI x y ∧ divI x y < 18446744073709551616 := by unfold divI; rw [IntKind.wrap_u64]; split <;> omega
theorem rem_nn (x y : Int) (h : 0 ≤ x) : 0 ≤ remI x y := by unfold remI; rw [IntKind.wrap_u64]; split <;> omega
theorem divu_nn (x y : Int) (h : 0 ≤ x) (k : 0 ≤ y) : 0 ≤ divuI x y := by
  unfold divuI; split
  · decide
  · exact Int.ediv_nonneg h k
theorem remu_nn (x y : Int) (h : 0 ≤ x) (k : 0 ≤ y) : 0 ≤ remuI x y := by
  unfold remuI; split
  · exact h
  · exact Int.emod_nonneg _ (by assumption)

set_option maxHeartbeats 1000000 in
theorem refProducts_50 (a b : Int) (w : World) (ha0 : 0 ≤ a) (ha : a < 18446744073709551616) (hb0 : 0 ≤ b) (hb : b < 18446744073709551616) :
    Calls Try.prog 26 #[.int .i64 50, .int .u64 a, .int .u64 b] w fun e w' => e = .returned (.tuple #[.int .u64 (doV 50 a b), .bool true]) ∧ w = w' := by
  have hA0 : 0 ≤ a % 4294967296 := by omega
  have hB0 : 0 ≤ b % 4294967296 := by omega
  have hA : a % 4294967296 < 18446744073709551616 := by omega
  have hB : b % 4294967296 < 18446744073709551616 := by omega
  go_enter Try.func26, Try.ntmps26
  go_wp2_with fail
  refine (product_any _ _ _ ha0 ha hb0 hb).mono ?_
  rintro e w' ⟨rfl, rfl⟩
  go_wp2
  go_ret2
  exact ⟨ret_pairb (by show _ = IntKind.u64.wrap (a * b); rw [IntKind.wrap_u64]), rfl⟩
set_option maxHeartbeats 1000000 in
theorem refDo_50 (a b : Int) (w : World) (ha0 : 0 ≤ a) (ha : a < 18446744073709551616) (hb0 : 0 ≤ b) (hb : b < 18446744073709551616) :
    Calls Try.prog 11 #[.int .i64 50, .int .u64 a, .int .u64 b] w fun e w' => e = .returned (.tuple #[.int .u64 (doV 50 a b), .bool true]) ∧ w = w' := by
  go_enter Try.func11, Try.ntmps11
  go_wp2_with fail
  refine (refProducts_50 _ _ _ ha0 ha hb0 hb).mono ?_
  rintro e w' ⟨rfl, rfl⟩
  go_wp2
  go_ret2
  exact ⟨rfl, rfl⟩

set_option maxHeartbeats 1000000 in
theorem refProducts_51 (a b : Int) (w : World) (ha0 : 0 ≤ a) (ha : a < 18446744073709551616) (hb0 : 0 ≤ b) (hb : b < 18446744073709551616) :
    Calls Try.prog 26 #[.int .i64 51, .int .u64 a, .int .u64 b] w fun e w' => e = .returned (.tuple #[.int .u64 (doV 51 a b), .bool true]) ∧ w = w' := by
  have hA0 : 0 ≤ a % 4294967296 := by omega
  have hB0 : 0 ≤ b % 4294967296 := by omega
  have hA : a % 4294967296 < 18446744073709551616 := by omega
  have hB : b % 4294967296 < 18446744073709551616 := by omega
  go_enter Try.func26, Try.ntmps26
  go_wp2_with fail
  refine (refMulh_any _ _ _ ha0 ha hb0 hb).mono ?_
  rintro e w' ⟨rfl, rfl⟩
  go_wp2
  go_ret2
  exact ⟨rfl, rfl⟩
set_option maxHeartbeats 1000000 in
theorem refDo_51 (a b : Int) (w : World) (ha0 : 0 ≤ a) (ha : a < 18446744073709551616) (hb0 : 0 ≤ b) (hb : b < 18446744073709551616) :
    Calls Try.prog 11 #[.int .i64 51, .int .u64 a, .int .u64 b] w fun e w' => e = .returned (.tuple #[.int .u64 (doV 51 a b), .bool true]) ∧ w = w' := by
  go_enter Try.func11, Try.ntmps11
  go_wp2_with fail
  refine (refProducts_51 _ _ _ ha0 ha hb0 hb).mono ?_
  rintro e w' ⟨rfl, rfl⟩
  go_wp2
  go_ret2
  exact ⟨rfl, rfl⟩

set_option maxHeartbeats 1000000 in
theorem refProducts_52 (a b : Int) (w : World) (ha0 : 0 ≤ a) (ha : a < 18446744073709551616) (hb0 : 0 ≤ b) (hb : b < 18446744073709551616) :
    Calls Try.prog 26 #[.int .i64 52, .int .u64 a, .int .u64 b] w fun e w' => e = .returned (.tuple #[.int .u64 (doV 52 a b), .bool true]) ∧ w = w' := by
  have hA0 : 0 ≤ a % 4294967296 := by omega
  have hB0 : 0 ≤ b % 4294967296 := by omega
  have hA : a % 4294967296 < 18446744073709551616 := by omega
  have hB : b % 4294967296 < 18446744073709551616 := by omega
  go_enter Try.func26, Try.ntmps26
  go_wp2_with fail
  refine (refMulhsu_any _ _ _ ha0 ha hb0 hb).mono ?_
  rintro e w' ⟨rfl, rfl⟩
  go_wp2
  go_ret2
  exact ⟨rfl, rfl⟩
set_option maxHeartbeats 1000000 in
theorem refDo_52 (a b : Int) (w : World) (ha0 : 0 ≤ a) (ha : a < 18446744073709551616) (hb0 : 0 ≤ b) (hb : b < 18446744073709551616) :
    Calls Try.prog 11 #[.int .i64 52, .int .u64 a, .int .u64 b] w fun e w' => e = .returned (.tuple #[.int .u64 (doV 52 a b), .bool true]) ∧ w = w' := by
  go_enter Try.func11, Try.ntmps11
  go_wp2_with fail
  refine (refProducts_52 _ _ _ ha0 ha hb0 hb).mono ?_
  rintro e w' ⟨rfl, rfl⟩
  go_wp2
  go_ret2
  exact ⟨rfl, rfl⟩

set_option maxHeartbeats 1000000 in
theorem refProducts_53 (a b : Int) (w : World) (ha0 : 0 ≤ a) (ha : a < 18446744073709551616) (hb0 : 0 ≤ b) (hb : b < 18446744073709551616) :
    Calls Try.prog 26 #[.int .i64 53, .int .u64 a, .int .u64 b] w fun e w' => e = .returned (.tuple #[.int .u64 (doV 53 a b), .bool true]) ∧ w = w' := by
  have hA0 : 0 ≤ a % 4294967296 := by omega
  have hB0 : 0 ≤ b % 4294967296 := by omega
  have hA : a % 4294967296 < 18446744073709551616 := by omega
  have hB : b % 4294967296 < 18446744073709551616 := by omega
  go_enter Try.func26, Try.ntmps26
  go_wp2_with fail
  refine (refMulhu_any _ _ _ ha0 ha hb0 hb).mono ?_
  rintro e w' ⟨rfl, rfl⟩
  go_wp2
  go_ret2
  exact ⟨rfl, rfl⟩
set_option maxHeartbeats 1000000 in
theorem refDo_53 (a b : Int) (w : World) (ha0 : 0 ≤ a) (ha : a < 18446744073709551616) (hb0 : 0 ≤ b) (hb : b < 18446744073709551616) :
    Calls Try.prog 11 #[.int .i64 53, .int .u64 a, .int .u64 b] w fun e w' => e = .returned (.tuple #[.int .u64 (doV 53 a b), .bool true]) ∧ w = w' := by
  go_enter Try.func11, Try.ntmps11
  go_wp2_with fail
  refine (refProducts_53 _ _ _ ha0 ha hb0 hb).mono ?_
  rintro e w' ⟨rfl, rfl⟩
  go_wp2
  go_ret2
  exact ⟨rfl, rfl⟩

set_option maxHeartbeats 1000000 in
theorem refProducts_54 (a b : Int) (w : World) (ha0 : 0 ≤ a) (ha : a < 18446744073709551616) (hb0 : 0 ≤ b) (hb : b < 18446744073709551616) :
    Calls Try.prog 26 #[.int .i64 54, .int .u64 a, .int .u64 b] w fun e w' => e = .returned (.tuple #[.int .u64 (doV 54 a b), .bool true]) ∧ w = w' := by
  have hA0 : 0 ≤ a % 4294967296 := by omega
  have hB0 : 0 ≤ b % 4294967296 := by omega
  have hA : a % 4294967296 < 18446744073709551616 := by omega
  have hB : b % 4294967296 < 18446744073709551616 := by omega
  go_enter Try.func26, Try.ntmps26
  go_wp2_with fail
  refine (refDiv_any _ _ _ ha0 ha hb0 hb).mono ?_
  rintro e w' ⟨rfl, rfl⟩
  go_wp2
  go_ret2
  exact ⟨rfl, rfl⟩
set_option maxHeartbeats 1000000 in
theorem refDo_54 (a b : Int) (w : World) (ha0 : 0 ≤ a) (ha : a < 18446744073709551616) (hb0 : 0 ≤ b) (hb : b < 18446744073709551616) :
    Calls Try.prog 11 #[.int .i64 54, .int .u64 a, .int .u64 b] w fun e w' => e = .returned (.tuple #[.int .u64 (doV 54 a b), .bool true]) ∧ w = w' := by
  go_enter Try.func11, Try.ntmps11
  go_wp2_with fail
  refine (refProducts_54 _ _ _ ha0 ha hb0 hb).mono ?_
  rintro e w' ⟨rfl, rfl⟩
  go_wp2
  go_ret2
  exact ⟨rfl, rfl⟩

set_option maxHeartbeats 1000000 in
theorem refProducts_55 (a b : Int) (w : World) (ha0 : 0 ≤ a) (ha : a < 18446744073709551616) (hb0 : 0 ≤ b) (hb : b < 18446744073709551616) :
    Calls Try.prog 26 #[.int .i64 55, .int .u64 a, .int .u64 b] w fun e w' => e = .returned (.tuple #[.int .u64 (doV 55 a b), .bool true]) ∧ w = w' := by
  have hA0 : 0 ≤ a % 4294967296 := by omega
  have hB0 : 0 ≤ b % 4294967296 := by omega
  have hA : a % 4294967296 < 18446744073709551616 := by omega
  have hB : b % 4294967296 < 18446744073709551616 := by omega
  go_enter Try.func26, Try.ntmps26
  go_wp2_with fail
  refine (refDivu_any _ _ _ ha0 ha hb0 hb).mono ?_
  rintro e w' ⟨rfl, rfl⟩
  go_wp2
  go_ret2
  exact ⟨rfl, rfl⟩
set_option maxHeartbeats 1000000 in
theorem refDo_55 (a b : Int) (w : World) (ha0 : 0 ≤ a) (ha : a < 18446744073709551616) (hb0 : 0 ≤ b) (hb : b < 18446744073709551616) :
    Calls Try.prog 11 #[.int .i64 55, .int .u64 a, .int .u64 b] w fun e w' => e = .returned (.tuple #[.int .u64 (doV 55 a b), .bool true]) ∧ w = w' := by
  go_enter Try.func11, Try.ntmps11
  go_wp2_with fail
  refine (refProducts_55 _ _ _ ha0 ha hb0 hb).mono ?_
  rintro e w' ⟨rfl, rfl⟩
  go_wp2
  go_ret2
  exact ⟨rfl, rfl⟩

set_option maxHeartbeats 1000000 in
theorem refProducts_56 (a b : Int) (w : World) (ha0 : 0 ≤ a) (ha : a < 18446744073709551616) (hb0 : 0 ≤ b) (hb : b < 18446744073709551616) :
    Calls Try.prog 26 #[.int .i64 56, .int .u64 a, .int .u64 b] w fun e w' => e = .returned (.tuple #[.int .u64 (doV 56 a b), .bool true]) ∧ w = w' := by
  have hA0 : 0 ≤ a % 4294967296 := by omega
  have hB0 : 0 ≤ b % 4294967296 := by omega
  have hA : a % 4294967296 < 18446744073709551616 := by omega
  have hB : b % 4294967296 < 18446744073709551616 := by omega
  go_enter Try.func26, Try.ntmps26
  go_wp2_with fail
  refine (refRem_any _ _ _ ha0 ha hb0 hb).mono ?_
  rintro e w' ⟨rfl, rfl⟩
  go_wp2
  go_ret2
  exact ⟨rfl, rfl⟩
set_option maxHeartbeats 1000000 in
theorem refDo_56 (a b : Int) (w : World) (ha0 : 0 ≤ a) (ha : a < 18446744073709551616) (hb0 : 0 ≤ b) (hb : b < 18446744073709551616) :
    Calls Try.prog 11 #[.int .i64 56, .int .u64 a, .int .u64 b] w fun e w' => e = .returned (.tuple #[.int .u64 (doV 56 a b), .bool true]) ∧ w = w' := by
  go_enter Try.func11, Try.ntmps11
  go_wp2_with fail
  refine (refProducts_56 _ _ _ ha0 ha hb0 hb).mono ?_
  rintro e w' ⟨rfl, rfl⟩
  go_wp2
  go_ret2
  exact ⟨rfl, rfl⟩

set_option maxHeartbeats 1000000 in
theorem refProducts_57 (a b : Int) (w : World) (ha0 : 0 ≤ a) (ha : a < 18446744073709551616) (hb0 : 0 ≤ b) (hb : b < 18446744073709551616) :
    Calls Try.prog 26 #[.int .i64 57, .int .u64 a, .int .u64 b] w fun e w' => e = .returned (.tuple #[.int .u64 (doV 57 a b), .bool true]) ∧ w = w' := by
  have hA0 : 0 ≤ a % 4294967296 := by omega
  have hB0 : 0 ≤ b % 4294967296 := by omega
  have hA : a % 4294967296 < 18446744073709551616 := by omega
  have hB : b % 4294967296 < 18446744073709551616 := by omega
  go_enter Try.func26, Try.ntmps26
  go_wp2_with fail
  refine (refRemu_any _ _ _ ha0 ha hb0 hb).mono ?_
  rintro e w' ⟨rfl, rfl⟩
  go_wp2
  go_ret2
  exact ⟨rfl, rfl⟩
set_option maxHeartbeats 1000000 in
theorem refDo_57 (a b : Int) (w : World) (ha0 : 0 ≤ a) (ha : a < 18446744073709551616) (hb0 : 0 ≤ b) (hb : b < 18446744073709551616) :
    Calls Try.prog 11 #[.int .i64 57, .int .u64 a, .int .u64 b] w fun e w' => e = .returned (.tuple #[.int .u64 (doV 57 a b), .bool true]) ∧ w = w' := by
  go_enter Try.func11, Try.ntmps11
  go_wp2_with fail
  refine (refProducts_57 _ _ _ ha0 ha hb0 hb).mono ?_
  rintro e w' ⟨rfl, rfl⟩
  go_wp2
  go_ret2
  exact ⟨rfl, rfl⟩

set_option maxHeartbeats 1000000 in
theorem refProducts_59 (a b : Int) (w : World) (ha0 : 0 ≤ a) (ha : a < 18446744073709551616) (hb0 : 0 ≤ b) (hb : b < 18446744073709551616) :
    Calls Try.prog 26 #[.int .i64 59, .int .u64 a, .int .u64 b] w fun e w' => e = .returned (.tuple #[.int .u64 (doV 59 a b), .bool true]) ∧ w = w' := by
  have hA0 : 0 ≤ a % 4294967296 := by omega
  have hB0 : 0 ≤ b % 4294967296 := by omega
  have hA : a % 4294967296 < 18446744073709551616 := by omega
  have hB : b % 4294967296 < 18446744073709551616 := by omega
  go_enter Try.func26, Try.ntmps26
  go_wp2_with fail
  refine (refSext_any _ _ _ hA0).mono ?_
  rintro e w' ⟨rfl, rfl⟩
  go_wp2_with fail
  refine (refSext_any _ _ _ hB0).mono ?_
  rintro e w' ⟨rfl, rfl⟩
  go_wp2_with fail
  refine (refDiv_any _ _ _ (sext32_bd _).1 (sext32_bd _).2 (sext32_bd _).1 (sext32_bd _).2).mono ?_
  rintro e w' ⟨rfl, rfl⟩
  go_wp2_with fail
  refine (refSext_any _ _ _ (div_bd _ _).1).mono ?_
  rintro e w' ⟨rfl, rfl⟩
  go_wp2
  go_ret2
  exact ⟨ret_pairb (sext_mod _ _ (Int.emod_emod_of_dvd _ (Int.dvd_refl _)).symm), rfl⟩
set_option maxHeartbeats 1000000 in
theorem refDo_59 (a b : Int) (w : World) (ha0 : 0 ≤ a) (ha : a < 18446744073709551616) (hb0 : 0 ≤ b) (hb : b < 18446744073709551616) :
    Calls Try.prog 11 #[.int .i64 59, .int .u64 a, .int .u64 b] w fun e w' => e = .returned (.tuple #[.int .u64 (doV 59 a b), .bool true]) ∧ w = w' := by
  go_enter Try.func11, Try.ntmps11
  go_wp2_with fail
  refine (refProducts_59 _ _ _ ha0 ha hb0 hb).mono ?_
  rintro e w' ⟨rfl, rfl⟩
  go_wp2
  go_ret2
  exact ⟨rfl, rfl⟩

set_option maxHeartbeats 1000000 in
theorem refProducts_60 (a b : Int) (w : World) (ha0 : 0 ≤ a) (ha : a < 18446744073709551616) (hb0 : 0 ≤ b) (hb : b < 18446744073709551616) :
    Calls Try.prog 26 #[.int .i64 60, .int .u64 a, .int .u64 b] w fun e w' => e = .returned (.tuple #[.int .u64 (doV 60 a b), .bool true]) ∧ w = w' := by
  have hA0 : 0 ≤ a % 4294967296 := by omega
  have hB0 : 0 ≤ b % 4294967296 := by omega
  have hA : a % 4294967296 < 18446744073709551616 := by omega
  have hB : b % 4294967296 < 18446744073709551616 := by omega
  go_enter Try.func26, Try.ntmps26
  go_wp2_with fail
  refine (refDivu_any _ _ _ hA0 hA hB0 hB).mono ?_
  rintro e w' ⟨rfl, rfl⟩
  go_wp2_with fail
  refine (refSext_any _ _ _ (divu_nn _ _ hA0 hB0)).mono ?_
  rintro e w' ⟨rfl, rfl⟩
  go_wp2
  go_ret2
  exact ⟨ret_pairb (sext_mod _ _ (Int.emod_emod_of_dvd _ (Int.dvd_refl _)).symm), rfl⟩
set_option maxHeartbeats 1000000 in
theorem refDo_60 (a b : Int) (w : World) (ha0 : 0 ≤ a) (ha : a < 18446744073709551616) (hb0 : 0 ≤ b) (hb : b < 18446744073709551616) :
    Calls Try.prog 11 #[.int .i64 60, .int .u64 a, .int .u64 b] w fun e w' => e = .returned (.tuple #[.int .u64 (doV 60 a b), .bool true]) ∧ w = w' := by
  go_enter Try.func11, Try.ntmps11
  go_wp2_with fail
  refine (refProducts_60 _ _ _ ha0 ha hb0 hb).mono ?_
  rintro e w' ⟨rfl, rfl⟩
  go_wp2
  go_ret2
  exact ⟨rfl, rfl⟩

set_option maxHeartbeats 1000000 in
theorem refProducts_61 (a b : Int) (w : World) (ha0 : 0 ≤ a) (ha : a < 18446744073709551616) (hb0 : 0 ≤ b) (hb : b < 18446744073709551616) :
    Calls Try.prog 26 #[.int .i64 61, .int .u64 a, .int .u64 b] w fun e w' => e = .returned (.tuple #[.int .u64 (doV 61 a b), .bool true]) ∧ w = w' := by
  have hA0 : 0 ≤ a % 4294967296 := by omega
  have hB0 : 0 ≤ b % 4294967296 := by omega
  have hA : a % 4294967296 < 18446744073709551616 := by omega
  have hB : b % 4294967296 < 18446744073709551616 := by omega
  go_enter Try.func26, Try.ntmps26
  go_wp2_with fail
  refine (refSext_any _ _ _ hA0).mono ?_
  rintro e w' ⟨rfl, rfl⟩
  go_wp2_with fail
  refine (refSext_any _ _ _ hB0).mono ?_
  rintro e w' ⟨rfl, rfl⟩
  go_wp2_with fail
  refine (refRem_any _ _ _ (sext32_bd _).1 (sext32_bd _).2 (sext32_bd _).1 (sext32_bd _).2).mono ?_
  rintro e w' ⟨rfl, rfl⟩
  go_wp2_with fail
  refine (refSext_any _ _ _ (rem_nn _ _ (sext32_bd _).1)).mono ?_
  rintro e w' ⟨rfl, rfl⟩
  go_wp2
  go_ret2
  exact ⟨ret_pairb (sext_mod _ _ (Int.emod_emod_of_dvd _ (Int.dvd_refl _)).symm), rfl⟩
set_option maxHeartbeats 1000000 in
theorem refDo_61 (a b : Int) (w : World) (ha0 : 0 ≤ a) (ha : a < 18446744073709551616) (hb0 : 0 ≤ b) (hb : b < 18446744073709551616) :
    Calls Try.prog 11 #[.int .i64 61, .int .u64 a, .int .u64 b] w fun e w' => e = .returned (.tuple #[.int .u64 (doV 61 a b), .bool true]) ∧ w = w' := by
  go_enter Try.func11, Try.ntmps11
  go_wp2_with fail
  refine (refProducts_61 _ _ _ ha0 ha hb0 hb).mono ?_
  rintro e w' ⟨rfl, rfl⟩
  go_wp2
  go_ret2
  exact ⟨rfl, rfl⟩

set_option maxHeartbeats 1000000 in
theorem refProducts_62 (a b : Int) (w : World) (ha0 : 0 ≤ a) (ha : a < 18446744073709551616) (hb0 : 0 ≤ b) (hb : b < 18446744073709551616) :
    Calls Try.prog 26 #[.int .i64 62, .int .u64 a, .int .u64 b] w fun e w' => e = .returned (.tuple #[.int .u64 (doV 62 a b), .bool true]) ∧ w = w' := by
  have hA0 : 0 ≤ a % 4294967296 := by omega
  have hB0 : 0 ≤ b % 4294967296 := by omega
  have hA : a % 4294967296 < 18446744073709551616 := by omega
  have hB : b % 4294967296 < 18446744073709551616 := by omega
  go_enter Try.func26, Try.ntmps26
  go_wp2_with fail
  refine (refRemu_any _ _ _ hA0 hA hB0 hB).mono ?_
  rintro e w' ⟨rfl, rfl⟩
  go_wp2_with fail
  refine (refSext_any _ _ _ (remu_nn _ _ hA0 hB0)).mono ?_
  rintro e w' ⟨rfl, rfl⟩
  go_wp2
  go_ret2
  exact ⟨ret_pairb (sext_mod _ _ (Int.emod_emod_of_dvd _ (Int.dvd_refl _)).symm), rfl⟩
set_option maxHeartbeats 1000000 in
theorem refDo_62 (a b : Int) (w : World) (ha0 : 0 ≤ a) (ha : a < 18446744073709551616) (hb0 : 0 ≤ b) (hb : b < 18446744073709551616) :
    Calls Try.prog 11 #[.int .i64 62, .int .u64 a, .int .u64 b] w fun e w' => e = .returned (.tuple #[.int .u64 (doV 62 a b), .bool true]) ∧ w = w' := by
  go_enter Try.func11, Try.ntmps11
  go_wp2_with fail
  refine (refProducts_62 _ _ _ ha0 ha hb0 hb).mono ?_
  rintro e w' ⟨rfl, rfl⟩
  go_wp2
  go_ret2
  exact ⟨rfl, rfl⟩

theorem refDo_yes (op a b : Int) (w : World) (hop : op ∈ doOps) (ha0 : 0 ≤ a) (ha : a < 18446744073709551616) (hb0 : 0 ≤ b) (hb : b < 18446744073709551616) :
    Calls Try.prog 11 #[.int .i64 op, .int .u64 a, .int .u64 b] w fun e w' => e = .returned (.tuple #[.int .u64 (doV op a b), .bool true]) ∧ w = w' := by
  simp only [doOps, narrowOps, plainOps, shiftOps, productOps, quotientOps, npOps, nqOps, List.cons_append, List.nil_append, List.mem_cons, List.not_mem_nil, or_false] at hop
  rcases hop with rfl | rfl | rfl | rfl | rfl | rfl | rfl | rfl | rfl | rfl | rfl | rfl | rfl | rfl | rfl | rfl | rfl | rfl | rfl | rfl | rfl | rfl | rfl | rfl | rfl | rfl | rfl | rfl | rfl | rfl | rfl | rfl | rfl | rfl | rfl | rfl | rfl | rfl | rfl | rfl | rfl | rfl
  · exact refDo_1 a b w ha0 ha hb0 hb
  · exact refDo_22 a b w ha0 ha hb0 hb
  · exact refDo_31 a b w ha0 ha hb0 hb
  · exact refDo_32 a b w ha0 ha hb0 hb
  · exact refDo_25 a b w ha0 ha hb0 hb
  · exact refDo_36 a b w ha0 ha hb0 hb
  · exact refDo_26 a b w ha0 ha hb0 hb
  · exact refDo_39 a b w ha0 ha hb0 hb
  · exact refDo_27 a b w ha0 ha hb0 hb
  · exact refDo_40 a b w ha0 ha hb0 hb
  · exact refDo_23 a b w ha0 ha hb0 hb
  · exact refDo_34 a b w ha0 ha hb0 hb
  · exact refDo_24 a b w ha0 ha hb0 hb
  · exact refDo_35 a b w ha0 ha hb0 hb
  · exact refDo_28 a b w ha0 ha hb0 hb
  · exact refDo_33 a b w ha0 ha hb0 hb
  · exact refDo_29 a b w ha0 ha hb0 hb
  · exact refDo_37 a b w ha0 ha hb0 hb
  · exact refDo_30 a b w ha0 ha hb0 hb
  · exact refDo_38 a b w ha0 ha hb0 hb
  · exact refDo_50 a b w ha0 ha hb0 hb
  · exact refDo_51 a b w ha0 ha hb0 hb
  · exact refDo_52 a b w ha0 ha hb0 hb
  · exact refDo_53 a b w ha0 ha hb0 hb
  · exact refDo_54 a b w ha0 ha hb0 hb
  · exact refDo_55 a b w ha0 ha hb0 hb
  · exact refDo_56 a b w ha0 ha hb0 hb
  · exact refDo_57 a b w ha0 ha hb0 hb
  · exact refDo_41 a b w ha0 ha hb0 hb
  · exact refDo_45 a b w ha0 ha hb0 hb
  · exact refDo_46 a b w ha0 ha hb0 hb
  · exact refDo_58 a b w ha0 ha hb0 hb
  · exact refDo_42 a b w ha0 ha hb0 hb
  · exact refDo_47 a b w ha0 ha hb0 hb
  · exact refDo_43 a b w ha0 ha hb0 hb
  · exact refDo_48 a b w ha0 ha hb0 hb
  · exact refDo_44 a b w ha0 ha hb0 hb
  · exact refDo_49 a b w ha0 ha hb0 hb
  · exact refDo_59 a b w ha0 ha hb0 hb
  · exact refDo_61 a b w ha0 ha hb0 hb
  · exact refDo_60 a b w ha0 ha hb0 hb
  · exact refDo_62 a b w ha0 ha hb0 hb

set_option maxHeartbeats 2000000 in
theorem refDo_no (op a b : Int) (w : World) (hop : op ∉ doOps) (ha0 : 0 ≤ a) (ha : a < 18446744073709551616) (hb0 : 0 ≤ b) (hb : b < 18446744073709551616) :
    Calls Try.prog 11 #[.int .i64 op, .int .u64 a, .int .u64 b] w fun e w' => e = .returned (.tuple #[.int .u64 0, .bool false]) ∧ w = w' := by
  simp only [doOps, narrowOps, plainOps, shiftOps, productOps, quotientOps, npOps, nqOps, List.cons_append, List.nil_append, List.mem_cons, List.not_mem_nil, or_false, not_or] at hop
  obtain ⟨h0, h1, h2, h3, h4, h5, h6, h7, h8, h9, h10, h11, h12, h13, h14, h15, h16, h17, h18, h19, h20, h21, h22, h23, h24, h25, h26, h27, h28, h29, h30, h31, h32, h33, h34, h35, h36, h37, h38, h39, h40, h41⟩ := hop
  replace h0 := nin h0
  replace h1 := nin h1
  replace h2 := nin h2
  replace h3 := nin h3
  replace h4 := nin h4
  replace h5 := nin h5
  replace h6 := nin h6
  replace h7 := nin h7
  replace h8 := nin h8
  replace h9 := nin h9
  replace h10 := nin h10
  replace h11 := nin h11
  replace h12 := nin h12
  replace h13 := nin h13
  replace h14 := nin h14
  replace h15 := nin h15
  replace h16 := nin h16
  replace h17 := nin h17
  replace h18 := nin h18
  replace h19 := nin h19
  replace h20 := nin h20
  replace h21 := nin h21
  replace h22 := nin h22
  replace h23 := nin h23
  replace h24 := nin h24
  replace h25 := nin h25
  replace h26 := nin h26
  replace h27 := nin h27
  replace h28 := nin h28
  replace h29 := nin h29
  replace h30 := nin h30
  replace h31 := nin h31
  replace h32 := nin h32
  replace h33 := nin h33
  replace h34 := nin h34
  replace h35 := nin h35
  replace h36 := nin h36
  replace h37 := nin h37
  replace h38 := nin h38
  replace h39 := nin h39
  replace h40 := nin h40
  replace h41 := nin h41
  have c : ∀ w, Calls Try.prog 26 #[.int .i64 op, .int .u64 a, .int .u64 b] w fun e w' => e = .returned (.tuple #[.int .u64 0, .bool false]) ∧ w = w' := by
    intro w
    go_enter Try.func26, Try.ntmps26
    go_wp2
    go_ret2
    exact ⟨rfl, rfl⟩
  go_enter Try.func11, Try.ntmps11
  go_wp2_with fail
  refine (c _).mono ?_
  rintro e w' ⟨rfl, rfl⟩
  clear c
  go_wp2
  go_ret2
  exact ⟨rfl, rfl⟩
end Go.Proofs.Ytfeohadlblpmcaa
