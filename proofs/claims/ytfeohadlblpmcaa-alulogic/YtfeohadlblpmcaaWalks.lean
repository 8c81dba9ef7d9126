/-
  What single functions of the program and of the reference answer: contracts, a function each.
-/
import Derived.Test.YtfeohadlblpmcaaRows
import Derived.Test.YtfeohadlblpmcaaMath
import Derived.WalkKit
import Derived.WalkSpells
import Derived.WalkLawsBesides
import Derived.Lib.Hide
namespace Go.Proofs.Ytfeohadlblpmcaa
open Go.RowKit

theorem ret_int {k : IntKind} {a b : Int} (h : a = b) : Ending.returned (.int k a) = .returned (.int k b) := by rw [h]
theorem ret_bool {a b : Bool} (h : a = b) : Ending.returned (.bool a) = .returned (.bool b) := by rw [h]

/-- Filled by the sign: as chapter 1 says it. -/
def sextI (x b : Int) : Int := if 1 ≤ b ∧ b ≤ 64 then sx x b.toNat else x

set_option maxHeartbeats 400000 in
theorem sext_any (x b : Int) (w : World) :
    Calls Try.prog 37 #[.int .u64 x, .int .i64 b] w fun e w' => e = .returned (.int .u64 (sextI x b)) ∧ w = w' := by
  by_cases hb : 1 ≤ b ∧ b ≤ 64
  · obtain ⟨h1, h2⟩ := hb
    obtain ⟨n, rfl⟩ := Int.eq_ofNat_of_zero_le (show 0 ≤ b by omega)
    have hs := Lib.hid (shifts x n (by omega) (by omega))
    go_enter Try.func37, Try.ntmps37
    go_wp2
    go_ret
    exact ⟨ret_int (by rw [hs.out]; unfold sextI; rw [if_pos ⟨h1, h2⟩]; rfl), rfl⟩
  · by_cases h1 : b < 1
    · go_enter Try.func37, Try.ntmps37
      go_wp2
      go_ret
      exact ⟨ret_int (by unfold sextI; rw [if_neg hb]), rfl⟩
    · have h2 : 64 < b := by omega
      go_enter Try.func37, Try.ntmps37
      go_wp2
      go_ret
      exact ⟨ret_int (by unfold sextI; rw [if_neg hb]), rfl⟩

set_option maxHeartbeats 400000 in
theorem bit_any (x i : Int) (w : World) (hx0 : 0 ≤ x) (hi0 : 0 ≤ i) (hi : i < 64) :
    Calls Try.prog 25 #[.int .u64 x, .int .i64 i] w fun e w' => e = .returned (.int .u64 (x / 2 ^ i.toNat % 2)) ∧ w = w' := by
  obtain ⟨X, rfl⟩ := Int.eq_ofNat_of_zero_le hx0
  obtain ⟨n, rfl⟩ := Int.eq_ofNat_of_zero_le hi0
  go_enter Try.func25, Try.ntmps25
  go_wp2
  go_ret
  exact ⟨ret_int (by rw [Int.toNat_natCast]; exact Int.tmod_eq_emod_of_nonneg (Int.ediv_nonneg (by omega) (Int.le_of_lt (pow_pos' _)))), rfl⟩

set_option maxHeartbeats 1000000 in
theorem refSext_any (x b : Int) (w : World) (hx0 : 0 ≤ x) :
    Calls Try.prog 16 #[.int .u64 x, .int .i64 b] w fun e w' => e = .returned (.int .u64 (sextI x b)) ∧ w = w' := by
  by_cases hb : 1 ≤ b ∧ b ≤ 64
  · obtain ⟨h1, h2⟩ := hb
    obtain ⟨n, rfl⟩ := Int.eq_ofNat_of_zero_le (show 0 ≤ b by omega)
    have fin : sextI x (n : Int) = sx x n := by unfold sextI; rw [if_pos ⟨h1, h2⟩]; rfl
    rw [fin]; clear fin
    go_enter Try.func16, Try.ntmps16
    go_wp2
    go_loop [5, 6] (fun o i => ∃ k : Nat, k ≤ 64 ∧ i = .int .i64 k ∧ o = .int .u64 (sx x n % 2 ^ k)) (fun _ i => 64 - (intOf i).toNat)
    case atStart => exact ⟨0, by omega, rfl, by simp [Int.emod_one]⟩
    case round =>
      obtain ⟨k, hk, rfl, rfl⟩ := hrel
      by_cases hlt : k < 64
      · by_cases hkn : k ≤ n - 1
        · have hs := Lib.hid (sx_bit x n k (by omega) hlt)
          have ho := Lib.hid (or_bit (sx x n) k hlt)
          have hc : (k : Int) ≤ (n : Int) - 1 := by omega
          go_wp2_with fail
          refine (bit_any _ _ _ hx0 (by omega) (by omega)).mono ?_
          rintro e w' ⟨rfl, rfl⟩
          go_wp2
          go_round
          case rel => exact ⟨k + 1, by omega, by go_num, by rw [← ho.out, hs.out, Nat.min_eq_left hkn]⟩
          case measure => simp [intOf]; omega
        · have hs := Lib.hid (sx_bit x n k (by omega) hlt)
          have ho := Lib.hid (or_bit (sx x n) k hlt)
          have hc : (n : Int) - 1 < (k : Int) := by omega
          have hn : ((n : Int) - 1).toNat = n - 1 := by omega
          have hN := Lib.hid hn; clear hn
          go_wp2_with fail
          refine (bit_any _ _ _ hx0 (by omega) (by omega)).mono ?_
          rintro e w' ⟨rfl, rfl⟩
          rw [hN.out]
          go_wp2
          go_round
          case rel => exact ⟨k + 1, by omega, by go_num, by rw [← ho.out, hs.out, Nat.min_eq_right (by omega)]⟩
          case measure => simp [intOf]; omega
      · obtain rfl : k = 64 := by omega
        go_wp2
        go_ret
        exact ⟨ret_int (Int.emod_eq_of_lt (sx_bd x n).1 (sx_bd x n).2), rfl⟩
  · by_cases h1 : b < 1
    · go_enter Try.func16, Try.ntmps16
      go_wp2
      go_ret
      exact ⟨ret_int (by unfold sextI; rw [if_neg hb]), rfl⟩
    · have h2 : 64 < b := by omega
      go_enter Try.func16, Try.ntmps16
      go_wp2
      go_ret
      exact ⟨ret_int (by unfold sextI; rw [if_neg hb]), rfl⟩
end Go.Proofs.Ytfeohadlblpmcaa
