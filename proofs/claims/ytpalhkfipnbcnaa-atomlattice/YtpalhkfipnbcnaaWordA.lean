/-
  Contracts of the functions that lay words as bytes and read them back, of the program and of the reference.
-/
import Derived.Test.YtpalhkfipnbcnaaRows
import Derived.Test.YtpalhkfipnbcnaaMath
import Derived.WalkKit
import Derived.WalkSpells
import Derived.WalkLawsBesides
import Derived.Lib.Hide
import Derived.Test.YtpalhkfipnbcnaaBytes
import Derived.Deep.QuietTactic
import Derived.BigQuiet
namespace Go.Proofs.Ytpalhkfipnbcnaa
open Go.RowKit
theorem count_any (n : Int) (w : World) : Calls Try.prog 61 #[.int .i64 n] w fun e w' => e = .returned (.bool (decide (1 ≤ n ∧ n ≤ 8))) ∧ w = w' := by
  by_cases h : 1 ≤ n
  · have e : decide (1 ≤ n ∧ n ≤ 8) = decide (n ≤ 8) := by simp [h]
    rw [e]; clear e
    go_enter Try.func61, Try.ntmps61
    go_wp2
    go_ret
    exact ⟨rfl, rfl⟩
  · have e : decide (1 ≤ n ∧ n ≤ 8) = false := by simp [h]
    rw [e]; clear e
    go_enter Try.func61, Try.ntmps61
    go_wp2
    go_ret
    exact ⟨rfl, rfl⟩

/-- The number that the first k bytes are, the lowest first. -/
def getS (xs : List Int) : Nat → Int
  | 0 => 0
  | k + 1 => getS xs k + xs.getD k 0 * 2 ^ (8 * k)
theorem getS_bd (xs : List Int) (hb : ∀ k, 0 ≤ xs.getD k 0 ∧ xs.getD k 0 ≤ 255) (k : Nat) : 0 ≤ getS xs k ∧ getS xs k < 2 ^ (8 * k) := by
  induction k with
  | zero => simp [getS]
  | succ k ih =>
    have hp := pow_pos' (8 * k)
    have hx := hb k
    have e : (2 : Int) ^ (8 * (k + 1)) = 256 * 2 ^ (8 * k) := by rw [show 8 * (k + 1) = 8 + 8 * k by omega, Int.pow_add]; rfl
    have h1 := Int.mul_nonneg hx.1 (Int.le_of_lt hp)
    have h2 := Int.mul_le_mul_of_nonneg_right hx.2 (Int.le_of_lt hp)
    unfold getS
    rw [e]
    omega
theorem pow_le56 (k : Nat) (h : k ≤ 56) : (2 : Int) ^ k ≤ 72057594037927936 := by
  have := (low_mono (k + 1) 57 (by omega) (by omega)).1
  simpa using this
theorem byte_up (x : Int) (k : Nat) (hk : k < 8) (hx : 0 ≤ x ∧ x ≤ 255) : IntKind.u64.wrap (x * 2 ^ (8 * k)) = x * 2 ^ (8 * k) := by
  have hp := pow_pos' (8 * k)
  have hq := pow_le56 (8 * k) (by omega)
  have h1 := Int.mul_nonneg hx.1 (Int.le_of_lt hp)
  have h2 := Int.mul_le_mul_of_nonneg_right hx.2 (Int.le_of_lt hp)
  exact IntWalk.u64_in _ (by omega)
/-- One byte more, by or. -/
theorem or_byte (xs : List Int) (hb : ∀ k, 0 ≤ xs.getD k 0 ∧ xs.getD k 0 ≤ 255) (k : Nat) (hk : k < 8) :
    bits .or .u64 (getS xs k) (IntKind.u64.wrap (xs.getD k 0 * 2 ^ (8 * k))) = getS xs (k + 1) := by
  obtain ⟨h0, h1⟩ := getS_bd xs hb k
  have hx := hb k
  rw [byte_up _ k hk hx]
  show _ = getS xs k + xs.getD k 0 * 2 ^ (8 * k)
  have hp := pow_pos' (8 * k)
  have hq := pow_le56 (8 * k) (by omega)
  have h3 := Int.mul_nonneg hx.1 (Int.le_of_lt hp)
  have h4 := Int.mul_le_mul_of_nonneg_right hx.2 (Int.le_of_lt hp)
  generalize getS xs k = g at *
  generalize xs.getD k 0 = x at *
  obtain ⟨G, rfl⟩ := Int.eq_ofNat_of_zero_le h0
  obtain ⟨X, rfl⟩ := Int.eq_ofNat_of_zero_le hx.1
  have e2 : (2 : Int) ^ (8 * k) = ((2 ^ (8 * k) : Nat) : Int) := by simp
  rw [e2, ← Int.natCast_mul] at h3 h4 ⊢
  rw [e2] at h1 hq
  rw [u64_or_nat G (X * 2 ^ (8 * k)) (by omega) (by omega), Nat.or_comm, nat_join (8 * k) (X * 2 ^ (8 * k)) G (Nat.mul_mod_left _ _) (by omega), Nat.add_comm, Int.natCast_add]

set_option maxHeartbeats 1000000 in
theorem get_in (A : Option Addr) (len cap : Nat) (xs : List Int) (n : Nat) (w : World) (hr : Rd w A xs) (hl : xs.length = len) (hm : len ≤ 100000) (h1 : 1 ≤ n) (h8 : n ≤ 8)
   (hb : ∀ k, 0 ≤ xs.getD k 0 ∧ xs.getD k 0 ≤ 255) :
    Calls Try.prog 64 #[.slice A len cap, .int .i64 n] w fun e w' => e = .returned (.int .u64 (getS xs (min n len))) ∧ w = w' := by
  have HR := Lib.hid hr; clear hr
  have HL := Lib.hid hl; clear hl
  have HB := Lib.hid hb; clear hb
  have e1 : decide (1 ≤ (n : Int) ∧ (n : Int) ≤ 8) = true := by simp; omega
  have E1 := Lib.hid e1; clear e1
  by_cases hc : len < n
  · rw [Nat.min_eq_right (by omega)]
    go_enter Try.func64, Try.ntmps64
    go_wp2_with fail
    refine (count_any _ _).mono ?_
    rintro e w' ⟨rfl, rfl⟩
    rw [E1.out]
    go_wp2
    go_loop [5, 14] (fun x i => ∃ k : Nat, k ≤ len ∧ i = .int .i64 k ∧ x = .int .u64 (getS xs k)) (fun _ i => len - (intOf i).toNat)
    case atStart => exact ⟨0, by omega, rfl, rfl⟩
    case round =>
      obtain ⟨k, hk, rfl, rfl⟩ := hrel
      by_cases hlt : k < len
      · obtain ⟨b, off, hA, hcell⟩ := HR.out.at_ k (by rw [HL.out]; omega)
        subst hA
        have hx := HB.out k
        have ho := Lib.hid (or_byte xs HB.out k (by omega))
        generalize xs.getD k 0 = x at *
        have hin : (k : Int) < (len : Int) := by omega
        go_wp2
        go_round
        case rel => exact ⟨k + 1, by omega, by go_num, by rw [← ho.out]⟩
        case measure => simp [intOf]; omega
      · obtain rfl : k = len := by omega
        go_wp2
        go_ret
        exact ⟨rfl, rfl⟩
  · rw [Nat.min_eq_left (by omega)]
    go_enter Try.func64, Try.ntmps64
    go_wp2_with fail
    refine (count_any _ _).mono ?_
    rintro e w' ⟨rfl, rfl⟩
    rw [E1.out]
    go_wp2
    go_loop [5, 14] (fun x i => ∃ k : Nat, k ≤ n ∧ i = .int .i64 k ∧ x = .int .u64 (getS xs k)) (fun _ i => n - (intOf i).toNat)
    case atStart => exact ⟨0, by omega, rfl, rfl⟩
    case round =>
      obtain ⟨k, hk, rfl, rfl⟩ := hrel
      by_cases hlt : k < n
      · obtain ⟨b, off, hA, hcell⟩ := HR.out.at_ k (by rw [HL.out]; omega)
        subst hA
        have hx := HB.out k
        have ho := Lib.hid (or_byte xs HB.out k (by omega))
        generalize xs.getD k 0 = x at *
        have hin : (k : Int) < (len : Int) := by omega
        go_wp2
        go_round
        case rel => exact ⟨k + 1, by omega, by go_num, by rw [← ho.out]⟩
        case measure => simp [intOf]; omega
      · obtain rfl : k = n := by omega
        go_wp2
        go_ret
        exact ⟨rfl, rfl⟩

set_option maxHeartbeats 1000000 in
theorem get_out (A : Option Addr) (len cap : Nat) (n : Int) (w : World) (h : ¬ (1 ≤ n ∧ n ≤ 8)) :
    Calls Try.prog 64 #[.slice A len cap, .int .i64 n] w fun e w' => e = .returned (.int .u64 0) ∧ w = w' := by
  have e1 : decide (1 ≤ n ∧ n ≤ 8) = false := by simp only [decide_eq_false_iff_not]; exact h
  have E1 := Lib.hid e1; clear e1
  go_enter Try.func64, Try.ntmps64
  go_wp2_with fail
  refine (count_any _ _).mono ?_
  rintro e w' ⟨rfl, rfl⟩
  rw [E1.out]
  go_wp2
  go_ret
  exact ⟨rfl, rfl⟩

theorem add_byte (xs : List Int) (hb : ∀ k, 0 ≤ xs.getD k 0 ∧ xs.getD k 0 ≤ 255) (k : Nat) (hk : k < 8) :
    IntKind.u64.wrap (getS xs k + IntKind.u64.wrap (xs.getD k 0 * 2 ^ (8 * k))) = getS xs (k + 1) := by
  rw [byte_up _ k hk (hb k)]
  have h := getS_bd xs hb (k + 1)
  have hp : (2 : Int) ^ (8 * (k + 1)) ≤ 18446744073709551616 := by
    have := (low_mono (8 * (k + 1) + 1) 65 (by omega) (by omega)).1
    simpa using this
  exact IntWalk.u64_in _ (by show 0 ≤ getS xs (k + 1) ∧ getS xs (k + 1) ≤ _; omega)

set_option maxHeartbeats 1000000 in
theorem refGet_in (A : Option Addr) (len cap : Nat) (xs : List Int) (n : Nat) (w : World) (hr : Rd w A xs) (hl : xs.length = len) (hm : len ≤ 100000) (h1 : 1 ≤ n) (h8 : n ≤ 8)
   (hb : ∀ k, 0 ≤ xs.getD k 0 ∧ xs.getD k 0 ≤ 255) :
    Calls Try.prog 24 #[.slice A len cap, .int .i64 n] w fun e w' => e = .returned (.int .u64 (getS xs (min n len))) ∧ w = w' := by
  have HR := Lib.hid hr; clear hr
  have HL := Lib.hid hl; clear hl
  have HB := Lib.hid hb; clear hb
  obtain ⟨M, hMe⟩ : ∃ M, M = min n len := ⟨_, rfl⟩
  rw [← hMe]
  have hM1 : M ≤ n := by omega
  have hM2 : M ≤ len := by omega
  have hM3 : M = n ∨ M = len := by omega
  have HM := Lib.hid hM3; clear hM3 hMe
  go_enter Try.func24, Try.ntmps24
  go_wp2
  go_loop [5, 6] (fun x i => ∃ k : Nat, k ≤ M ∧ i = .int .i64 k ∧ x = .int .u64 (getS xs k)) (fun _ i => M - (intOf i).toNat)
  case atStart => exact ⟨0, by omega, rfl, rfl⟩
  case round =>
    obtain ⟨k, hk, rfl, rfl⟩ := hrel
    by_cases hlt : k < M
    · obtain ⟨b, off, hA, hcell⟩ := HR.out.at_ k (by rw [HL.out]; omega)
      subst hA
      have hx := HB.out k
      have ho := Lib.hid (add_byte xs HB.out k (by omega))
      generalize xs.getD k 0 = x at *
      have hin : (k : Int) < (len : Int) := by omega
      have hin2 : (k : Int) < (n : Int) := by omega
      go_wp2
      go_round
      case rel => exact ⟨k + 1, by omega, by go_num, by rw [← ho.out]⟩
      case measure => simp [intOf]; omega
    · obtain rfl : k = M := by omega
      by_cases hkn : k < n
      · have hkl : k = len := by have := HM.out; omega
        have hin : ¬ (k : Int) < (len : Int) := by omega
        clear hkl
        go_wp2
        go_ret
        exact ⟨rfl, rfl⟩
      · go_wp2
        go_ret
        exact ⟨rfl, rfl⟩
set_option maxHeartbeats 1000000 in
theorem refGet_out (A : Option Addr) (len cap : Nat) (n : Int) (w : World) (h : ¬ (1 ≤ n ∧ n ≤ 8)) :
    Calls Try.prog 24 #[.slice A len cap, .int .i64 n] w fun e w' => e = .returned (.int .u64 0) ∧ w = w' := by
  by_cases h1 : n < 1
  · go_enter Try.func24, Try.ntmps24
    go_wp2
    go_ret
    exact ⟨rfl, rfl⟩
  · have h2 : 8 < n := by omega
    clear h
    go_enter Try.func24, Try.ntmps24
    go_wp2
    go_ret
    exact ⟨rfl, rfl⟩

set_option maxHeartbeats 1000000 in
theorem sameB_any (A B : Option Addr) (len cap cap' : Nat) (xs : List Int) (w : World) (hr : Rd w A xs) (hr' : Rd w B xs) (hl : xs.length = len) (hm : len ≤ 100000) :
    Calls Try.prog 15 #[.slice A len cap, .slice B len cap'] w fun e w' => e = .returned (.bool true) ∧ ∃ m, w' = w.drewN m := by
  have HR := Lib.hid hr; clear hr
  have HR' := Lib.hid hr'; clear hr'
  have HL := Lib.hid hl; clear hl
  go_enter Try.func15, Try.ntmps15
  go_wp2
  go_loopw [5] (fun i wr => ∃ k m : Nat, k ≤ len ∧ i = .int .i64 k ∧ wr = w.drewN m) (fun i _ => len - (intOf i).toNat)
  case atStart => exact ⟨0, 0, by omega, rfl, rfl⟩
  case round =>
    obtain ⟨k, m, hk, rfl, rfl⟩ := hrel
    by_cases hlt : k < len
    · obtain ⟨b, off, hA, hcell⟩ := HR.out.at_ k (by rw [HL.out]; omega)
      subst hA
      obtain ⟨b', off', hA, hcell'⟩ := HR'.out.at_ k (by rw [HL.out]; omega)
      subst hA
      generalize xs.getD k 0 = x at *
      have hin : (k : Int) < (len : Int) := by omega
      go_wp2
      go_quiet (fail)
      go_wp2
      go_roundw
      case rel => exact ⟨k + 1, m + nq, by omega, by go_num, rfl⟩
      case measure => simp [intOf]; omega
    · obtain rfl : k = len := by omega
      go_wp2
      go_ret
      exact ⟨rfl, _, rfl⟩
end Go.Proofs.Ytpalhkfipnbcnaa
